/- Texts of the proof: UR UT. -/
import Derived.Test.YthdhmflodiincaaCC25
import Derived.Test.YthdhmflodiincaaCC22
import Derived.Deep.DeepCutAuto
set_option maxRecDepth 100000
set_option maxHeartbeats 8000000
namespace Go.Proofs.Ythdhmflodiincaa

theorem turnM_rank {n : Nat} {g : List Gt} {A : List Cl} (hs : Sq n g A) : ∀ c ∈ turnM n A, ∃ x y, x < n ∧ y < n ∧ c.1 = ((y * n + x : Nat) : Int) ∧ (((x * n + y : Nat) : Int), c.2) ∈ A := fun c hc => by
  unfold turnM at hc
  obtain ⟨d, hd, rfl⟩ := List.mem_map.1 hc
  obtain ⟨h0, h1⟩ := hs.2 d hd
  obtain ⟨k, hk⟩ : ∃ k : Nat, d.1 = (k : Int) := ⟨d.1.toNat, by omega⟩
  have hk2 : k < n * n := by rw [hk] at h1; exact_mod_cast h1
  obtain ⟨x, y, hx, hy, e⟩ := pair_of (by rcases Nat.eq_zero_or_pos n with rfl | h; omega; exact h) hk2
  refine ⟨x, y, hx, hy, ?_, ?_⟩
  · show d.1 % (n : Int) * n + d.1 / n = _
    rw [hk, e, turn_pair hy]
  · rw [← e, ← hk]
    exact hd
theorem sq_pair {n : Nat} {g : List Gt} {A : List Cl} (hs : Sq n g A) : ∀ c ∈ A, ∃ x y, x < n ∧ y < n ∧ c.1 = ((x * n + y : Nat) : Int) := fun c hc => by
  obtain ⟨h0, h1⟩ := hs.2 c hc
  obtain ⟨k, hk⟩ : ∃ k : Nat, c.1 = (k : Int) := ⟨c.1.toNat, by omega⟩
  have hk2 : k < n * n := by rw [hk] at h1; exact_mod_cast h1
  obtain ⟨x, y, hx, hy, e⟩ := pair_of (by rcases Nat.eq_zero_or_pos n with rfl | h; omega; exact h) hk2
  exact ⟨x, y, hx, hy, by rw [hk, e]⟩
theorem turnM_up {n : Nat} {g : List Gt} {A l : List Cl} (hs : Sq n g A) (hp : l.Perm (turnM n A)) (hl : SortedCl l) : UpM l := by
  have hnd : (l.map (·.1)).Nodup := by
    refine (hp.map (·.1)).symm.nodup ?_
    unfold turnM
    rw [List.map_map]
    refine List.pairwise_map.2 ?_
    have hA : A.Pairwise fun a b => a.1 < b.1 := List.pairwise_map.1 hs.1.1
    refine hA.imp_of_mem fun {a b} ha hb hab e => ?_
    obtain ⟨x, y, hx, hy, ea⟩ := sq_pair hs a ha
    obtain ⟨u, v, hu, hv, eb⟩ := sq_pair hs b hb
    simp only [Function.comp_apply] at e
    rw [ea, eb, turn_pair hy, turn_pair hv] at e
    obtain ⟨rfl, rfl⟩ := pair_inj hx hu (by omega : y * n + x = v * n + u)
    omega
  unfold UpM
  refine List.pairwise_map.2 ((hl.and (List.pairwise_map.1 hnd)).imp fun {a b} h => ?_)
  have h1 := h.1
  have h2 := h.2
  omega
theorem turnM_sq {n : Nat} {g : List Gt} {A l : List Cl} (hs : Sq n g A) (hp : l.Perm (turnM n A)) (hl : SortedCl l) : Sq n g l := by
  have key : ∀ c ∈ l, ∃ x y, x < n ∧ y < n ∧ c.1 = ((y * n + x : Nat) : Int) ∧ (((x * n + y : Nat) : Int), c.2) ∈ A := fun c hc => turnM_rank hs c (hp.mem_iff.1 hc)
  refine ⟨⟨turnM_up hs hp hl, fun c hc => ?_⟩, fun c hc => ?_⟩
  · obtain ⟨x, y, _, _, _, h⟩ := key c hc
    exact hs.1.2 (((x * n + y : Nat) : Int), c.2) h
  · obtain ⟨x, y, hx, hy, e, _⟩ := key c hc
    have h1 : y * n + x < n * n := by have h2 : (y + 1) * n ≤ n * n := Nat.mul_le_mul_right _ hy; rw [Nat.succ_mul] at h2; omega
    rw [e]
    exact ⟨Int.natCast_nonneg _, by exact_mod_cast h1⟩
theorem val_turn {n : Nat} {g : List Gt} {A l : List Cl} (_hG : Good g) (hs : Sq n g A) (hp : l.Perm (turnM n A)) (hl : SortedCl l) (v : List Bool) : valL g v l = uniq (turnL n (valL g v A)) := by
  have hq := turnM_sq hs hp hl
  refine pairs_ext (val_up hq.1.1 v) (uniq_up _) (val_pairs hq v) (turn_pairs (val_pairs hs v)) fun x y hx hy => ?_
  rw [hs_turnL (val_pairs hs v) hx hy]
  unfold Hs valL
  simp only [List.mem_map, List.mem_filter]
  constructor
  · rintro ⟨c, ⟨hc, hv⟩, e⟩
    obtain ⟨a, b, ha, hb, e1, h⟩ := turnM_rank hs c (hp.mem_iff.1 hc)
    rw [e1] at e
    obtain ⟨rfl, rfl⟩ := pair_inj ha hy (by omega : b * n + a = x * n + y)
    exact ⟨_, ⟨h, hv⟩, rfl⟩
  · rintro ⟨c, ⟨hc, hv⟩, e⟩
    refine ⟨(c.1 % (n : Int) * n + c.1 / n, c.2), ⟨hp.mem_iff.2 (List.mem_map.2 ⟨c, hc, rfl⟩), hv⟩, ?_⟩
    show c.1 % (n : Int) * n + c.1 / n = _
    rw [e, turn_pair hx]
end Go.Proofs.Ythdhmflodiincaa

namespace Go.Proofs.Ythdhmflodiincaa
open Go.RowKit Go.Maps

abbrev hv8o0 : Oper := { dst := some 51, op := Op.load 30 (Operand.tmp 10), type := 30, pos := "law.go:152", after := #[], guard := none }
abbrev hv8o1 : Oper := { dst := some 52, op := Op.move (Operand.tmp 11), type := 3, pos := "law.go:152", after := #[], guard := none }
abbrev hv8o2 : Oper := { dst := some 53, op := Op.move (Operand.tmp 11), type := 3, pos := "law.go:152", after := #[], guard := none }
abbrev hv8o3 : Oper := { dst := some 54, op := Op.load 26 (Operand.tmp 12), type := 26, pos := "law.go:152", after := #[], guard := none }
abbrev hv8o4 : Oper := { dst := some 55, op := Op.call { callee := Callee.value (Operand.func 44), args := #[Operand.tmp 53, Operand.tmp 54], argTypes := #[3, 26] }, type := 26, pos := "law.go:152", after := #[{ on := 2, ground := Ground.data }, { on := 3, ground := Ground.data }], guard := none }
abbrev hv8o5 : Oper := { dst := some 56, op := Op.call { callee := Callee.value (Operand.func 60), args := #[Operand.tmp 51, Operand.tmp 52, Operand.tmp 55], argTypes := #[30, 3, 26] }, type := 38, pos := "law.go:152", after := #[{ on := 0, ground := Ground.data }, { on := 1, ground := Ground.data }, { on := 4, ground := Ground.data }, { on := 4, ground := Ground.chain }], guard := none }
abbrev hv8o6 : Oper := { dst := some 50, op := Op.move (Operand.tmp 56), type := 38, pos := "law.go:152", after := #[{ on := 5, ground := Ground.data }], guard := none }
abbrev hv8o7 : Oper := { dst := some 57, op := Op.extract (Operand.tmp 50) 0, type := 30, pos := "law.go:152", after := #[{ on := 6, ground := Ground.data }], guard := none }
abbrev hv8o8 : Oper := { dst := some 58, op := Op.extract (Operand.tmp 50) 1, type := 26, pos := "law.go:152", after := #[{ on := 6, ground := Ground.data }, { on := 11, ground := Ground.gcOnly Departure.lateStores }], guard := none }
abbrev hv8o9 : Oper := { dst := some 18, op := Op.alloc 30, type := 0, pos := "law.go:152", after := #[], guard := none }
abbrev hv8o10 : Oper := { dst := some 19, op := Op.alloc 26, type := 0, pos := "law.go:152", after := #[], guard := none }
abbrev hv8o11 : Oper := { dst := none, op := Op.store 30 (Operand.tmp 18) (Operand.tmp 57), type := 0, pos := "law.go:152", after := #[{ on := 9, ground := Ground.data }, { on := 7, ground := Ground.data }, { on := 5, ground := Ground.chain }, { on := 0, ground := Ground.phase }, { on := 1, ground := Ground.phase }, { on := 2, ground := Ground.phase }, { on := 3, ground := Ground.phase }, { on := 4, ground := Ground.phase }, { on := 5, ground := Ground.phase }, { on := 6, ground := Ground.phase }, { on := 7, ground := Ground.phase }, { on := 8, ground := Ground.textOnly Departure.lateStores }, { on := 9, ground := Ground.phase }, { on := 10, ground := Ground.phase }], guard := none }
abbrev hv8o12 : Oper := { dst := none, op := Op.store 26 (Operand.tmp 19) (Operand.tmp 58), type := 0, pos := "law.go:152", after := #[{ on := 10, ground := Ground.data }, { on := 8, ground := Ground.data }, { on := 11, ground := Ground.chain }, { on := 0, ground := Ground.phase }, { on := 1, ground := Ground.phase }, { on := 2, ground := Ground.phase }, { on := 3, ground := Ground.phase }, { on := 4, ground := Ground.phase }, { on := 5, ground := Ground.phase }, { on := 6, ground := Ground.phase }, { on := 7, ground := Ground.phase }, { on := 8, ground := Ground.phase }, { on := 9, ground := Ground.phase }, { on := 10, ground := Ground.phase }, { on := 11, ground := Ground.phase }], guard := none }
def hv8Ops : Array Oper := #[hv8o0, hv8o1, hv8o2, hv8o3, hv8o4, hv8o5, hv8o6, hv8o7, hv8o8, hv8o9, hv8o10, hv8o11, hv8o12]
def hv8P (V : World) (bc ba mA c0 cA _n : Nat) (a0 aA : Option Addr) (g : List Gt) (_A : List Cl) : World → Prop := (fun Wh : World => V.grownBy Wh none ∧ Wh.cell? ⟨bc, 0, none⟩ = some (.slice a0 g.length c0) ∧ Wh.cell? ⟨ba, 0, none⟩ = some (.int .i64 2) ∧ Wh.cell? ⟨ba, 1, none⟩ = some (.slice aA mA cA))
theorem hv8S {V W : World} {bc ba mA c0 cA n : Nat} {a0 aA : Option Addr} {g : List Gt} {A : List Cl} (h : CB V bc a0 c0 g ∧ XB V ba 2 aA mA cA A ∧ (∀ U : World, V.grownBy U none → Calls Try.prog 44 #[.int .i64 (n : Int), .agg #[.int .i64 2, .slice aA mA cA]] U fun e w' => ∃ b d l, e = .returned (.agg #[.int .i64 2, .slice b mA d]) ∧ l.Perm (turnM n A) ∧ SortedCl l ∧ CellsW w' b d l ∧ U.grownBy w' none) ∧ (∀ (U : World) (b : Option Addr) (d : Nat) (l : List Cl), V.grownBy U none → l.Perm (turnM n A) → SortedCl l → CellsW U b d l → Calls Try.prog 60 #[.agg #[.slice a0 g.length c0], .int .i64 (n : Int), .agg #[.int .i64 2, .slice b mA d]] U (AnsM U (smP n g l).1 2 (smP n g l).2))) (HG : V.grownBy W none) : (hv8P V bc ba mA c0 cA n a0 aA g A) W := ⟨HG, (h.1.grown HG).1, (h.2.1.grown HG).1, (h.2.1.grown HG).2.1⟩
def hv8F (Q : Exit → Act → World → Prop) (V : World) (b14 b15 b16 b17 cv : Nat) (av : Option Addr) (bc ba _mA _c0 _cA n : Nat) (_a0 _aA : Option Addr) (g : List Gt) (A : List Cl) : Prop := ∀ (l : List Cl) (aJ : Option Addr) (cJ : Nat) (bJ : Option Addr) (nJ : Nat) (dJ : Nat) (p6 : Nat) (p7 : Nat) (u0 u1 u2 u3 u4 u5 u6 u7 u8 u20 u21 u22 u23 u24 u25 u26 u27 u28 u29 u30 u31 u32 u33 u34 u35 u36 u37 u38 u39 u40 u41 u42 u43 u44 u45 u46 u47 u48 u49 u50 u51 u52 u53 u54 u55 u56 u57 u58 u59 u60 u61 u62 u63 u64 u65 u66 u67 u68 u69 u70 u71 u72 u73 u74 u75 u76 u77 u78 u79 u80 u81 u82 u83 : Value) (W : World), V.grownBy W none → l.Perm (turnM n A) → SortedCl l → (smP n g l).2.length = nJ → V.heap.size ≤ p6 → V.heap.size ≤ p7 → CB W p6 aJ cJ (smP n g l).1 → XB W p7 2 bJ nJ dJ (smP n g l).2 → Q .normal ⟨#[u0, u1, u2, u3, u4, u5, u6, u7, u8, .bool true, .pointer (some ⟨bc, 0, none⟩), .int .i64 (n : Int), .pointer (some ⟨ba, 0, none⟩), .slice av 8 cv, .pointer (some ⟨b14, 0, none⟩), .pointer (some ⟨b15, 0, none⟩), .pointer (some ⟨b16, 0, none⟩), .pointer (some ⟨b17, 0, none⟩), .pointer (some ⟨p6, 0, none⟩), .pointer (some ⟨p7, 0, none⟩), u20, u21, u22, u23, u24, u25, u26, u27, u28, u29, u30, u31, u32, u33, u34, u35, u36, u37, u38, u39, u40, u41, u42, u43, u44, u45, u46, u47, u48, u49, u50, u51, u52, u53, u54, u55, u56, u57, u58, u59, u60, u61, u62, u63, u64, u65, u66, u67, u68, u69, u70, u71, u72, u73, u74, u75, u76, u77, u78, u79, u80, u81, u82, u83], []⟩ W
def hv8f (t : Nat → Value) (b14 b15 b16 b17 cv : Nat) (av : Option Addr) (bc ba _mA _c0 _cA n : Nat) (_a0 _aA : Option Addr) (_g : List Gt) (_A : List Cl) (v18 v19 v50 v51 v52 v53 v54 v55 v56 v57 v58 : Value) : Act := ⟨#[t 0, t 1, t 2, t 3, t 4, t 5, t 6, t 7, t 8, .bool true, .pointer (some ⟨bc, 0, none⟩), .int .i64 (n : Int), .pointer (some ⟨ba, 0, none⟩), .slice av 8 cv, .pointer (some ⟨b14, 0, none⟩), .pointer (some ⟨b15, 0, none⟩), .pointer (some ⟨b16, 0, none⟩), .pointer (some ⟨b17, 0, none⟩), v18, v19, t 20, t 21, t 22, t 23, t 24, t 25, t 26, t 27, t 28, t 29, t 30, t 31, t 32, t 33, t 34, t 35, t 36, t 37, t 38, t 39, t 40, t 41, t 42, t 43, t 44, t 45, t 46, t 47, t 48, t 49, v50, v51, v52, v53, v54, v55, v56, v57, v58, t 59, t 60, t 61, t 62, t 63, t 64, t 65, t 66, t 67, t 68, t 69, t 70, t 71, t 72, t 73, t 74, t 75, t 76, t 77, t 78, t 79, t 80, t 81, t 82, t 83], []⟩
section
variable {Q : Exit → Act → World → Prop} {V W : World} {b14 b15 b16 b17 cv : Nat} {av : Option Addr} {bc ba mA c0 cA n : Nat} {a0 aA : Option Addr} {g : List Gt} {A : List Cl} {L : Array Bool} {t : Nat → Value}
theorem hv80 (_hp : ∀ c a d v w, Q (.panic c) (Act.put a d v) w → Q (.panic c) a w) {a4 : Option Addr} {c4 : Nat} {l : List Cl} {aJ : Option Addr} {cJ : Nat} {bJ : Option Addr} {nJ : Nat} {dJ : Nat} {p6 : Nat} {p7 : Nat} (hl : L = #[true, true, true, true, true, true, true, true, true, true, true, true, true]) (_HB : Hid (CB V bc a0 c0 g ∧ XB V ba 2 aA mA cA A ∧ (∀ U : World, V.grownBy U none → Calls Try.prog 44 #[.int .i64 (n : Int), .agg #[.int .i64 2, .slice aA mA cA]] U fun e w' => ∃ b d l, e = .returned (.agg #[.int .i64 2, .slice b mA d]) ∧ l.Perm (turnM n A) ∧ SortedCl l ∧ CellsW w' b d l ∧ U.grownBy w' none) ∧ (∀ (U : World) (b : Option Addr) (d : Nat) (l : List Cl), V.grownBy U none → l.Perm (turnM n A) → SortedCl l → CellsW U b d l → Calls Try.prog 60 #[.agg #[.slice a0 g.length c0], .int .i64 (n : Int), .agg #[.int .i64 2, .slice b mA d]] U (AnsM U (smP n g l).1 2 (smP n g l).2)))) (HG : V.grownBy W none) (l_p : l.Perm (turnM n A)) (l_s : SortedCl l) (l_n : (smP n g l).2.length = nJ) (l_z : V.heap.size ≤ p6) (l_y : V.heap.size ≤ p7) (cb : CB W p6 aJ cJ (smP n g l).1) (xb : XB W p7 2 bJ nJ dJ (smP n g l).2) (HQ : Hid (hv8F Q V b14 b15 b16 b17 cv av bc ba mA c0 cA n a0 aA g A)) :
    wpAnyH Try.prog .any hv8Ops Q (hv8P V bc ba mA c0 cA n a0 aA g A) 0 L (hv8f t b14 b15 b16 b17 cv av bc ba mA c0 cA n a0 aA g A (.pointer (some ⟨p6, 0, none⟩)) (.pointer (some ⟨p7, 0, none⟩)) (.tuple #[.agg #[.slice aJ (smP n g l).1.length cJ], .agg #[.int .i64 2, .slice bJ nJ dJ]]) (.agg #[.slice a0 g.length c0]) (.int .i64 (n : Int)) (.int .i64 (n : Int)) (.agg #[.int .i64 2, .slice aA mA cA]) (.agg #[.int .i64 2, .slice a4 mA c4]) (.tuple #[.agg #[.slice aJ (smP n g l).1.length cJ], .agg #[.int .i64 2, .slice bJ nJ dJ]]) (.agg #[.slice aJ (smP n g l).1.length cJ]) (.agg #[.int .i64 2, .slice bJ nJ dJ])) W := by
  subst hl
  unfold hv8f
  refine wpAnyH_done (by kernel_rfl) ?_ _
  exact HQ.out _ _ _ _ _ _ _ _ _ _ _ _ _ _ _ _ _ _ _ _ _ _ _ _ _ _ _ _ _ _ _ _ _ _ _ _ _ _ _ _ _ _ _ _ _ _ _ _ _ _ _ _ _ _ _ _ _ _ _ _ _ _ _ _ _ _ _ _ _ _ _ _ _ _ _ _ _ _ _ _ _ _ HG l_p l_s l_n l_z l_y cb xb

theorem hv81 (hp : ∀ c a d v w, Q (.panic c) (Act.put a d v) w → Q (.panic c) a w) {a4 : Option Addr} {c4 : Nat} {l : List Cl} {aJ : Option Addr} {cJ : Nat} {bJ : Option Addr} {nJ : Nat} {dJ : Nat} {p6 : Nat} {p7 : Nat} (hl : L = #[true, true, true, true, true, true, true, true, true, true, true, true, false]) (HB : Hid (CB V bc a0 c0 g ∧ XB V ba 2 aA mA cA A ∧ (∀ U : World, V.grownBy U none → Calls Try.prog 44 #[.int .i64 (n : Int), .agg #[.int .i64 2, .slice aA mA cA]] U fun e w' => ∃ b d l, e = .returned (.agg #[.int .i64 2, .slice b mA d]) ∧ l.Perm (turnM n A) ∧ SortedCl l ∧ CellsW w' b d l ∧ U.grownBy w' none) ∧ (∀ (U : World) (b : Option Addr) (d : Nat) (l : List Cl), V.grownBy U none → l.Perm (turnM n A) → SortedCl l → CellsW U b d l → Calls Try.prog 60 #[.agg #[.slice a0 g.length c0], .int .i64 (n : Int), .agg #[.int .i64 2, .slice b mA d]] U (AnsM U (smP n g l).1 2 (smP n g l).2)))) (HG : V.grownBy W none) (l_p : l.Perm (turnM n A)) (l_s : SortedCl l) (l_n : (smP n g l).2.length = nJ) (mJ : CellsW W bJ dJ (smP n g l).2) (l_z : V.heap.size ≤ p6) (y : XZ W p7) (l_y : V.heap.size ≤ p7) (cb : CB W p6 aJ cJ (smP n g l).1) (HQ : Hid (hv8F Q V b14 b15 b16 b17 cv av bc ba mA c0 cA n a0 aA g A)) :
    wpAnyH Try.prog .any hv8Ops Q (hv8P V bc ba mA c0 cA n a0 aA g A) 1 L (hv8f t b14 b15 b16 b17 cv av bc ba mA c0 cA n a0 aA g A (.pointer (some ⟨p6, 0, none⟩)) (.pointer (some ⟨p7, 0, none⟩)) (.tuple #[.agg #[.slice aJ (smP n g l).1.length cJ], .agg #[.int .i64 2, .slice bJ nJ dJ]]) (.agg #[.slice a0 g.length c0]) (.int .i64 (n : Int)) (.int .i64 (n : Int)) (.agg #[.int .i64 2, .slice aA mA cA]) (.agg #[.int .i64 2, .slice a4 mA c4]) (.tuple #[.agg #[.slice aJ (smP n g l).1.length cJ], .agg #[.int .i64 2, .slice bJ nJ dJ]]) (.agg #[.slice aJ (smP n g l).1.length cJ]) (.agg #[.int .i64 2, .slice bJ nJ dJ])) W := by
  subst hl
  unfold hv8f
  refine wpAnyH_ready (rs := [12]) (by kernel_rfl) (by simp) ?_
  refine (AllReadyH.cons (o := hv8o12) rfl (fun K hK => ?_) AllReadyH.nil)
  rw [if_pos (by rfl)]
  unfold hv8o12
  have y0 := y.1
  have y1 := y.2.1
  have y2 := y.2.2.1
  have y3 := y.2.2.2
  go_simp
  have xb := (show XB (laidX W p7 (.int .i64 2) (.slice bJ nJ dJ)) p7 2 bJ nJ dJ (smP n g l).2 from XZ.put y 2 mJ l_n)
  replace cb := XZ.cb y (.int .i64 2) (.slice bJ nJ dJ) cb
  replace HG := XZ.grows HG l_y (.int .i64 2) (.slice bJ nJ dJ)
  clear y mJ
  unfold laidX at HG cb xb
  obtain ⟨U, hU⟩ : ∃ U, (W.setCell ⟨p7, 0, none⟩ (.int .i64 2)).setCell ⟨p7, 1, none⟩ (.slice bJ nJ dJ) = U := ⟨_, rfl⟩
  rw [hU] at HG cb xb ⊢
  clear hU
  refine hK.out _ _ (hv8S HB.out HG) (fun hHeld => ?_)
  clear hK K
  try simp only [sA, sB, sC]
  exact hv80 hp (by kernel_rfl) HB HG l_p l_s l_n l_z l_y cb xb HQ

theorem hv82 (hp : ∀ c a d v w, Q (.panic c) (Act.put a d v) w → Q (.panic c) a w) {a4 : Option Addr} {c4 : Nat} {l : List Cl} {aJ : Option Addr} {cJ : Nat} {bJ : Option Addr} {nJ : Nat} {dJ : Nat} {p6 : Nat} {p7 : Nat} (hl : L = #[true, true, true, true, true, true, true, true, true, true, true, false, false]) (HB : Hid (CB V bc a0 c0 g ∧ XB V ba 2 aA mA cA A ∧ (∀ U : World, V.grownBy U none → Calls Try.prog 44 #[.int .i64 (n : Int), .agg #[.int .i64 2, .slice aA mA cA]] U fun e w' => ∃ b d l, e = .returned (.agg #[.int .i64 2, .slice b mA d]) ∧ l.Perm (turnM n A) ∧ SortedCl l ∧ CellsW w' b d l ∧ U.grownBy w' none) ∧ (∀ (U : World) (b : Option Addr) (d : Nat) (l : List Cl), V.grownBy U none → l.Perm (turnM n A) → SortedCl l → CellsW U b d l → Calls Try.prog 60 #[.agg #[.slice a0 g.length c0], .int .i64 (n : Int), .agg #[.int .i64 2, .slice b mA d]] U (AnsM U (smP n g l).1 2 (smP n g l).2)))) (HG : V.grownBy W none) (l_p : l.Perm (turnM n A)) (l_s : SortedCl l) (l_n : (smP n g l).2.length = nJ) (gJ : GatesW W aJ cJ (smP n g l).1) (mJ : CellsW W bJ dJ (smP n g l).2) (z : BoxZ W p6) (l_z : V.heap.size ≤ p6) (y : XZ W p7) (l_y : V.heap.size ≤ p7) (HQ : Hid (hv8F Q V b14 b15 b16 b17 cv av bc ba mA c0 cA n a0 aA g A)) :
    wpAnyH Try.prog .any hv8Ops Q (hv8P V bc ba mA c0 cA n a0 aA g A) 2 L (hv8f t b14 b15 b16 b17 cv av bc ba mA c0 cA n a0 aA g A (.pointer (some ⟨p6, 0, none⟩)) (.pointer (some ⟨p7, 0, none⟩)) (.tuple #[.agg #[.slice aJ (smP n g l).1.length cJ], .agg #[.int .i64 2, .slice bJ nJ dJ]]) (.agg #[.slice a0 g.length c0]) (.int .i64 (n : Int)) (.int .i64 (n : Int)) (.agg #[.int .i64 2, .slice aA mA cA]) (.agg #[.int .i64 2, .slice a4 mA c4]) (.tuple #[.agg #[.slice aJ (smP n g l).1.length cJ], .agg #[.int .i64 2, .slice bJ nJ dJ]]) (.agg #[.slice aJ (smP n g l).1.length cJ]) (.agg #[.int .i64 2, .slice bJ nJ dJ])) W := by
  subst hl
  unfold hv8f
  refine wpAnyH_ready (rs := [11]) (by kernel_rfl) (by simp) ?_
  refine (AllReadyH.cons (o := hv8o11) rfl (fun K hK => ?_) AllReadyH.nil)
  rw [if_pos (by rfl)]
  unfold hv8o11
  have z0 := z.1
  have zf := z.2
  go_simp
  have cb := CB.put gJ z.1 z.2
  replace mJ := CellsW.setB z (.slice aJ (smP n g l).1.length cJ) mJ
  replace y := XZ.set y z (.slice aJ (smP n g l).1.length cJ)
  replace HG := grown_own HG (grown_set W p6 0 (.slice aJ (smP n g l).1.length cJ)) (fun k e => by cases e; exact l_z)
  clear gJ z
  obtain ⟨U, hU⟩ : ∃ U, W.setCell ⟨p6, 0, none⟩ (.slice aJ (smP n g l).1.length cJ) = U := ⟨_, rfl⟩
  rw [hU] at HG mJ y cb ⊢
  clear hU
  refine hK.out _ _ (hv8S HB.out HG) (fun hHeld => ?_)
  clear hK K
  try simp only [sA, sB, sC]
  exact hv81 hp (by kernel_rfl) HB HG l_p l_s l_n mJ l_z y l_y cb HQ

theorem hv83 (hp : ∀ c a d v w, Q (.panic c) (Act.put a d v) w → Q (.panic c) a w) {a4 : Option Addr} {c4 : Nat} {l : List Cl} {aJ : Option Addr} {cJ : Nat} {bJ : Option Addr} {nJ : Nat} {dJ : Nat} {p6 : Nat} (hl : L = #[true, true, true, true, true, true, true, true, true, true, false, false, false]) (HB : Hid (CB V bc a0 c0 g ∧ XB V ba 2 aA mA cA A ∧ (∀ U : World, V.grownBy U none → Calls Try.prog 44 #[.int .i64 (n : Int), .agg #[.int .i64 2, .slice aA mA cA]] U fun e w' => ∃ b d l, e = .returned (.agg #[.int .i64 2, .slice b mA d]) ∧ l.Perm (turnM n A) ∧ SortedCl l ∧ CellsW w' b d l ∧ U.grownBy w' none) ∧ (∀ (U : World) (b : Option Addr) (d : Nat) (l : List Cl), V.grownBy U none → l.Perm (turnM n A) → SortedCl l → CellsW U b d l → Calls Try.prog 60 #[.agg #[.slice a0 g.length c0], .int .i64 (n : Int), .agg #[.int .i64 2, .slice b mA d]] U (AnsM U (smP n g l).1 2 (smP n g l).2)))) (HG : V.grownBy W none) (l_p : l.Perm (turnM n A)) (l_s : SortedCl l) (l_n : (smP n g l).2.length = nJ) (gJ : GatesW W aJ cJ (smP n g l).1) (mJ : CellsW W bJ dJ (smP n g l).2) (z : BoxZ W p6) (l_z : V.heap.size ≤ p6) (HQ : Hid (hv8F Q V b14 b15 b16 b17 cv av bc ba mA c0 cA n a0 aA g A)) :
    wpAnyH Try.prog .any hv8Ops Q (hv8P V bc ba mA c0 cA n a0 aA g A) 3 L (hv8f t b14 b15 b16 b17 cv av bc ba mA c0 cA n a0 aA g A (.pointer (some ⟨p6, 0, none⟩)) (t 19) (.tuple #[.agg #[.slice aJ (smP n g l).1.length cJ], .agg #[.int .i64 2, .slice bJ nJ dJ]]) (.agg #[.slice a0 g.length c0]) (.int .i64 (n : Int)) (.int .i64 (n : Int)) (.agg #[.int .i64 2, .slice aA mA cA]) (.agg #[.int .i64 2, .slice a4 mA c4]) (.tuple #[.agg #[.slice aJ (smP n g l).1.length cJ], .agg #[.int .i64 2, .slice bJ nJ dJ]]) (.agg #[.slice aJ (smP n g l).1.length cJ]) (.agg #[.int .i64 2, .slice bJ nJ dJ])) W := by
  subst hl
  unfold hv8f
  refine wpAnyH_ready (rs := [10]) (by kernel_rfl) (by simp) ?_
  refine (AllReadyH.cons (o := hv8o10) rfl (fun K hK => ?_) AllReadyH.nil)
  rw [if_pos (by rfl)]
  unfold hv8o10
  go_simp
  have hg := World.grownBy_alloc W (.cells #[.int .i64 0, .slice none 0 0] 26) none
  have y := XZ.new W
  have l_y := World.grownBy.size HG
  replace gJ := gJ.grown hg
  replace mJ := mJ.grown hg
  replace z := z.grown hg
  replace HG := World.grownBy.trans HG hg
  obtain ⟨U, hU⟩ : ∃ U, W.alloc (.cells #[.int .i64 0, .slice none 0 0] 26) = U := ⟨_, rfl⟩
  rw [hU] at HG gJ mJ z y ⊢
  clear hU hg
  refine hK.out _ _ (hv8S HB.out HG) (fun hHeld => ?_)
  clear hK K
  try simp only [sA, sB, sC]
  exact hv82 hp (by kernel_rfl) HB HG l_p l_s l_n gJ mJ z l_z y l_y HQ

theorem hv84 (hp : ∀ c a d v w, Q (.panic c) (Act.put a d v) w → Q (.panic c) a w) {a4 : Option Addr} {c4 : Nat} {l : List Cl} {aJ : Option Addr} {cJ : Nat} {bJ : Option Addr} {nJ : Nat} {dJ : Nat} {p7 : Nat} (hl : L = #[true, true, true, true, true, true, true, true, true, false, true, false, false]) (HB : Hid (CB V bc a0 c0 g ∧ XB V ba 2 aA mA cA A ∧ (∀ U : World, V.grownBy U none → Calls Try.prog 44 #[.int .i64 (n : Int), .agg #[.int .i64 2, .slice aA mA cA]] U fun e w' => ∃ b d l, e = .returned (.agg #[.int .i64 2, .slice b mA d]) ∧ l.Perm (turnM n A) ∧ SortedCl l ∧ CellsW w' b d l ∧ U.grownBy w' none) ∧ (∀ (U : World) (b : Option Addr) (d : Nat) (l : List Cl), V.grownBy U none → l.Perm (turnM n A) → SortedCl l → CellsW U b d l → Calls Try.prog 60 #[.agg #[.slice a0 g.length c0], .int .i64 (n : Int), .agg #[.int .i64 2, .slice b mA d]] U (AnsM U (smP n g l).1 2 (smP n g l).2)))) (HG : V.grownBy W none) (l_p : l.Perm (turnM n A)) (l_s : SortedCl l) (l_n : (smP n g l).2.length = nJ) (gJ : GatesW W aJ cJ (smP n g l).1) (mJ : CellsW W bJ dJ (smP n g l).2) (y : XZ W p7) (l_y : V.heap.size ≤ p7) (HQ : Hid (hv8F Q V b14 b15 b16 b17 cv av bc ba mA c0 cA n a0 aA g A)) :
    wpAnyH Try.prog .any hv8Ops Q (hv8P V bc ba mA c0 cA n a0 aA g A) 3 L (hv8f t b14 b15 b16 b17 cv av bc ba mA c0 cA n a0 aA g A (t 18) (.pointer (some ⟨p7, 0, none⟩)) (.tuple #[.agg #[.slice aJ (smP n g l).1.length cJ], .agg #[.int .i64 2, .slice bJ nJ dJ]]) (.agg #[.slice a0 g.length c0]) (.int .i64 (n : Int)) (.int .i64 (n : Int)) (.agg #[.int .i64 2, .slice aA mA cA]) (.agg #[.int .i64 2, .slice a4 mA c4]) (.tuple #[.agg #[.slice aJ (smP n g l).1.length cJ], .agg #[.int .i64 2, .slice bJ nJ dJ]]) (.agg #[.slice aJ (smP n g l).1.length cJ]) (.agg #[.int .i64 2, .slice bJ nJ dJ])) W := by
  subst hl
  unfold hv8f
  refine wpAnyH_ready (rs := [9]) (by kernel_rfl) (by simp) ?_
  refine (AllReadyH.cons (o := hv8o9) rfl (fun K hK => ?_) AllReadyH.nil)
  rw [if_pos (by rfl)]
  unfold hv8o9
  go_simp
  have hg := World.grownBy_alloc W (.cells #[.slice none 0 0] 30) none
  have z := BoxZ.new W
  have l_z := World.grownBy.size HG
  replace gJ := gJ.grown hg
  replace mJ := mJ.grown hg
  replace y := y.grown hg
  replace HG := World.grownBy.trans HG hg
  obtain ⟨U, hU⟩ : ∃ U, W.alloc (.cells #[.slice none 0 0] 30) = U := ⟨_, rfl⟩
  rw [hU] at HG gJ mJ y z ⊢
  clear hU hg
  refine hK.out _ _ (hv8S HB.out HG) (fun hHeld => ?_)
  clear hK K
  try simp only [sA, sB, sC]
  exact hv82 hp (by kernel_rfl) HB HG l_p l_s l_n gJ mJ z l_z y l_y HQ

theorem hv85 (hp : ∀ c a d v w, Q (.panic c) (Act.put a d v) w → Q (.panic c) a w) {a4 : Option Addr} {c4 : Nat} {l : List Cl} {aJ : Option Addr} {cJ : Nat} {bJ : Option Addr} {nJ : Nat} {dJ : Nat} (hl : L = #[true, true, true, true, true, true, true, true, true, false, false, false, false]) (HB : Hid (CB V bc a0 c0 g ∧ XB V ba 2 aA mA cA A ∧ (∀ U : World, V.grownBy U none → Calls Try.prog 44 #[.int .i64 (n : Int), .agg #[.int .i64 2, .slice aA mA cA]] U fun e w' => ∃ b d l, e = .returned (.agg #[.int .i64 2, .slice b mA d]) ∧ l.Perm (turnM n A) ∧ SortedCl l ∧ CellsW w' b d l ∧ U.grownBy w' none) ∧ (∀ (U : World) (b : Option Addr) (d : Nat) (l : List Cl), V.grownBy U none → l.Perm (turnM n A) → SortedCl l → CellsW U b d l → Calls Try.prog 60 #[.agg #[.slice a0 g.length c0], .int .i64 (n : Int), .agg #[.int .i64 2, .slice b mA d]] U (AnsM U (smP n g l).1 2 (smP n g l).2)))) (HG : V.grownBy W none) (l_p : l.Perm (turnM n A)) (l_s : SortedCl l) (l_n : (smP n g l).2.length = nJ) (gJ : GatesW W aJ cJ (smP n g l).1) (mJ : CellsW W bJ dJ (smP n g l).2) (HQ : Hid (hv8F Q V b14 b15 b16 b17 cv av bc ba mA c0 cA n a0 aA g A)) :
    wpAnyH Try.prog .any hv8Ops Q (hv8P V bc ba mA c0 cA n a0 aA g A) 4 L (hv8f t b14 b15 b16 b17 cv av bc ba mA c0 cA n a0 aA g A (t 18) (t 19) (.tuple #[.agg #[.slice aJ (smP n g l).1.length cJ], .agg #[.int .i64 2, .slice bJ nJ dJ]]) (.agg #[.slice a0 g.length c0]) (.int .i64 (n : Int)) (.int .i64 (n : Int)) (.agg #[.int .i64 2, .slice aA mA cA]) (.agg #[.int .i64 2, .slice a4 mA c4]) (.tuple #[.agg #[.slice aJ (smP n g l).1.length cJ], .agg #[.int .i64 2, .slice bJ nJ dJ]]) (.agg #[.slice aJ (smP n g l).1.length cJ]) (.agg #[.int .i64 2, .slice bJ nJ dJ])) W := by
  subst hl
  unfold hv8f
  refine wpAnyH_ready (rs := [9, 10]) (by kernel_rfl) (by simp) ?_
  refine (AllReadyH.cons (o := hv8o9) rfl (fun K hK => ?_) (AllReadyH.cons (o := hv8o10) rfl (fun K hK => ?_) AllReadyH.nil))
  · rw [if_pos (by rfl)]
    unfold hv8o9
    go_simp
    have hg := World.grownBy_alloc W (.cells #[.slice none 0 0] 30) none
    have z := BoxZ.new W
    have l_z := World.grownBy.size HG
    replace gJ := gJ.grown hg
    replace mJ := mJ.grown hg
    replace HG := World.grownBy.trans HG hg
    obtain ⟨U, hU⟩ : ∃ U, W.alloc (.cells #[.slice none 0 0] 30) = U := ⟨_, rfl⟩
    rw [hU] at HG gJ mJ z ⊢
    clear hU hg
    refine hK.out _ _ (hv8S HB.out HG) (fun hHeld => ?_)
    clear hK K
    try simp only [sA, sB, sC]
    exact hv83 hp (by kernel_rfl) HB HG l_p l_s l_n gJ mJ z l_z HQ
  · rw [if_pos (by rfl)]
    unfold hv8o10
    go_simp
    have hg := World.grownBy_alloc W (.cells #[.int .i64 0, .slice none 0 0] 26) none
    have y := XZ.new W
    have l_y := World.grownBy.size HG
    replace gJ := gJ.grown hg
    replace mJ := mJ.grown hg
    replace HG := World.grownBy.trans HG hg
    obtain ⟨U, hU⟩ : ∃ U, W.alloc (.cells #[.int .i64 0, .slice none 0 0] 26) = U := ⟨_, rfl⟩
    rw [hU] at HG gJ mJ y ⊢
    clear hU hg
    refine hK.out _ _ (hv8S HB.out HG) (fun hHeld => ?_)
    clear hK K
    try simp only [sA, sB, sC]
    exact hv84 hp (by kernel_rfl) HB HG l_p l_s l_n gJ mJ y l_y HQ

theorem hv86 (hp : ∀ c a d v w, Q (.panic c) (Act.put a d v) w → Q (.panic c) a w) {a4 : Option Addr} {c4 : Nat} {l : List Cl} {p6 : Nat} {p7 : Nat} (hl : L = #[true, true, true, true, true, false, false, false, false, true, true, false, false]) (HB : Hid (CB V bc a0 c0 g ∧ XB V ba 2 aA mA cA A ∧ (∀ U : World, V.grownBy U none → Calls Try.prog 44 #[.int .i64 (n : Int), .agg #[.int .i64 2, .slice aA mA cA]] U fun e w' => ∃ b d l, e = .returned (.agg #[.int .i64 2, .slice b mA d]) ∧ l.Perm (turnM n A) ∧ SortedCl l ∧ CellsW w' b d l ∧ U.grownBy w' none) ∧ (∀ (U : World) (b : Option Addr) (d : Nat) (l : List Cl), V.grownBy U none → l.Perm (turnM n A) → SortedCl l → CellsW U b d l → Calls Try.prog 60 #[.agg #[.slice a0 g.length c0], .int .i64 (n : Int), .agg #[.int .i64 2, .slice b mA d]] U (AnsM U (smP n g l).1 2 (smP n g l).2)))) (HG : V.grownBy W none) (l_p : l.Perm (turnM n A)) (l_s : SortedCl l) (k4 : CellsW W a4 c4 l) (z : BoxZ W p6) (l_z : V.heap.size ≤ p6) (y : XZ W p7) (l_y : V.heap.size ≤ p7) (HQ : Hid (hv8F Q V b14 b15 b16 b17 cv av bc ba mA c0 cA n a0 aA g A)) :
    wpAnyH Try.prog .any hv8Ops Q (hv8P V bc ba mA c0 cA n a0 aA g A) 6 L (hv8f t b14 b15 b16 b17 cv av bc ba mA c0 cA n a0 aA g A (.pointer (some ⟨p6, 0, none⟩)) (.pointer (some ⟨p7, 0, none⟩)) (t 50) (.agg #[.slice a0 g.length c0]) (.int .i64 (n : Int)) (.int .i64 (n : Int)) (.agg #[.int .i64 2, .slice aA mA cA]) (.agg #[.int .i64 2, .slice a4 mA c4]) (t 56) (t 57) (t 58)) W := by
  subst hl
  unfold hv8f
  refine wpAnyH_ready (rs := [5]) (by kernel_rfl) (by simp) ?_
  refine (AllReadyH.cons (o := hv8o5) rfl (fun K hK => ?_) AllReadyH.nil)
  rw [if_pos (by rfl)]
  unfold hv8o5
  go_simp
  go_at_call 60
  refine (HB.out.2.2.2 W a4 c4 l HG l_p l_s k4).mono ?_
  rintro e U ⟨aJ, cJ, bJ, nJ, dJ, rfl, l_n, gJ, mJ, g⟩
  replace z := z.grown g
  replace y := y.grown g
  replace HG := World.grownBy.trans HG g
  clear g
  go_wp2_with fail
  refine hK.out _ _ (hv8S HB.out HG) (fun hHeld => ?_)
  clear hK K
  try simp only [sA, sB, sC]
  refine tk 6 hv8o6 ?_ rfl (by kernel_rfl) (fun c a w h => hp c a _ _ w h) (by rfl) ?_ hHeld ?_
  rotate_left 1
  · (intro W hSW; unfold hv8P at hSW; unfold hv8o6; first | (go_simp; done) | (go_simp; with_reducible rfl))
  try simp only [Act.put, sA, sB, sC]
  refine tk 7 hv8o7 ?_ rfl (by kernel_rfl) (fun c a w h => hp c a _ _ w h) (by rfl) ?_ hHeld ?_
  rotate_left 1
  · (intro W hSW; unfold hv8P at hSW; unfold hv8o7; first | (go_simp; done) | (go_simp; with_reducible rfl))
  try simp only [Act.put, sA, sB, sC]
  refine tk 8 hv8o8 ?_ rfl (by kernel_rfl) (fun c a w h => hp c a _ _ w h) (by rfl) ?_ hHeld ?_
  rotate_left 1
  · (intro W hSW; unfold hv8P at hSW; unfold hv8o8; first | (go_simp; done) | (go_simp; with_reducible rfl))
  try simp only [Act.put, sA, sB, sC]
  exact hv82 hp (by kernel_rfl) HB HG l_p l_s l_n gJ mJ z l_z y l_y HQ

theorem hv87 (hp : ∀ c a d v w, Q (.panic c) (Act.put a d v) w → Q (.panic c) a w) {a4 : Option Addr} {c4 : Nat} {l : List Cl} {p6 : Nat} (hl : L = #[true, true, true, true, true, false, false, false, false, true, false, false, false]) (HB : Hid (CB V bc a0 c0 g ∧ XB V ba 2 aA mA cA A ∧ (∀ U : World, V.grownBy U none → Calls Try.prog 44 #[.int .i64 (n : Int), .agg #[.int .i64 2, .slice aA mA cA]] U fun e w' => ∃ b d l, e = .returned (.agg #[.int .i64 2, .slice b mA d]) ∧ l.Perm (turnM n A) ∧ SortedCl l ∧ CellsW w' b d l ∧ U.grownBy w' none) ∧ (∀ (U : World) (b : Option Addr) (d : Nat) (l : List Cl), V.grownBy U none → l.Perm (turnM n A) → SortedCl l → CellsW U b d l → Calls Try.prog 60 #[.agg #[.slice a0 g.length c0], .int .i64 (n : Int), .agg #[.int .i64 2, .slice b mA d]] U (AnsM U (smP n g l).1 2 (smP n g l).2)))) (HG : V.grownBy W none) (l_p : l.Perm (turnM n A)) (l_s : SortedCl l) (k4 : CellsW W a4 c4 l) (z : BoxZ W p6) (l_z : V.heap.size ≤ p6) (HQ : Hid (hv8F Q V b14 b15 b16 b17 cv av bc ba mA c0 cA n a0 aA g A)) :
    wpAnyH Try.prog .any hv8Ops Q (hv8P V bc ba mA c0 cA n a0 aA g A) 7 L (hv8f t b14 b15 b16 b17 cv av bc ba mA c0 cA n a0 aA g A (.pointer (some ⟨p6, 0, none⟩)) (t 19) (t 50) (.agg #[.slice a0 g.length c0]) (.int .i64 (n : Int)) (.int .i64 (n : Int)) (.agg #[.int .i64 2, .slice aA mA cA]) (.agg #[.int .i64 2, .slice a4 mA c4]) (t 56) (t 57) (t 58)) W := by
  subst hl
  unfold hv8f
  refine wpAnyH_ready (rs := [5, 10]) (by kernel_rfl) (by simp) ?_
  refine (AllReadyH.cons (o := hv8o5) rfl (fun K hK => ?_) (AllReadyH.cons (o := hv8o10) rfl (fun K hK => ?_) AllReadyH.nil))
  · rw [if_pos (by rfl)]
    unfold hv8o5
    go_simp
    go_at_call 60
    refine (HB.out.2.2.2 W a4 c4 l HG l_p l_s k4).mono ?_
    rintro e U ⟨aJ, cJ, bJ, nJ, dJ, rfl, l_n, gJ, mJ, g⟩
    replace z := z.grown g
    replace HG := World.grownBy.trans HG g
    clear g
    go_wp2_with fail
    refine hK.out _ _ (hv8S HB.out HG) (fun hHeld => ?_)
    clear hK K
    try simp only [sA, sB, sC]
    refine tk 6 hv8o6 ?_ rfl (by kernel_rfl) (fun c a w h => hp c a _ _ w h) (by rfl) ?_ hHeld ?_
    rotate_left 1
    · (intro W hSW; unfold hv8P at hSW; unfold hv8o6; first | (go_simp; done) | (go_simp; with_reducible rfl))
    try simp only [Act.put, sA, sB, sC]
    refine tk 7 hv8o7 ?_ rfl (by kernel_rfl) (fun c a w h => hp c a _ _ w h) (by rfl) ?_ hHeld ?_
    rotate_left 1
    · (intro W hSW; unfold hv8P at hSW; unfold hv8o7; first | (go_simp; done) | (go_simp; with_reducible rfl))
    try simp only [Act.put, sA, sB, sC]
    refine tk 8 hv8o8 ?_ rfl (by kernel_rfl) (fun c a w h => hp c a _ _ w h) (by rfl) ?_ hHeld ?_
    rotate_left 1
    · (intro W hSW; unfold hv8P at hSW; unfold hv8o8; first | (go_simp; done) | (go_simp; with_reducible rfl))
    try simp only [Act.put, sA, sB, sC]
    exact hv83 hp (by kernel_rfl) HB HG l_p l_s l_n gJ mJ z l_z HQ
  · rw [if_pos (by rfl)]
    unfold hv8o10
    go_simp
    have hg := World.grownBy_alloc W (.cells #[.int .i64 0, .slice none 0 0] 26) none
    have y := XZ.new W
    have l_y := World.grownBy.size HG
    replace k4 := k4.grown hg
    replace z := z.grown hg
    replace HG := World.grownBy.trans HG hg
    obtain ⟨U, hU⟩ : ∃ U, W.alloc (.cells #[.int .i64 0, .slice none 0 0] 26) = U := ⟨_, rfl⟩
    rw [hU] at HG k4 z y ⊢
    clear hU hg
    refine hK.out _ _ (hv8S HB.out HG) (fun hHeld => ?_)
    clear hK K
    try simp only [sA, sB, sC]
    exact hv86 hp (by kernel_rfl) HB HG l_p l_s k4 z l_z y l_y HQ

theorem hv88 (hp : ∀ c a d v w, Q (.panic c) (Act.put a d v) w → Q (.panic c) a w) {a4 : Option Addr} {c4 : Nat} {l : List Cl} {p7 : Nat} (hl : L = #[true, true, true, true, true, false, false, false, false, false, true, false, false]) (HB : Hid (CB V bc a0 c0 g ∧ XB V ba 2 aA mA cA A ∧ (∀ U : World, V.grownBy U none → Calls Try.prog 44 #[.int .i64 (n : Int), .agg #[.int .i64 2, .slice aA mA cA]] U fun e w' => ∃ b d l, e = .returned (.agg #[.int .i64 2, .slice b mA d]) ∧ l.Perm (turnM n A) ∧ SortedCl l ∧ CellsW w' b d l ∧ U.grownBy w' none) ∧ (∀ (U : World) (b : Option Addr) (d : Nat) (l : List Cl), V.grownBy U none → l.Perm (turnM n A) → SortedCl l → CellsW U b d l → Calls Try.prog 60 #[.agg #[.slice a0 g.length c0], .int .i64 (n : Int), .agg #[.int .i64 2, .slice b mA d]] U (AnsM U (smP n g l).1 2 (smP n g l).2)))) (HG : V.grownBy W none) (l_p : l.Perm (turnM n A)) (l_s : SortedCl l) (k4 : CellsW W a4 c4 l) (y : XZ W p7) (l_y : V.heap.size ≤ p7) (HQ : Hid (hv8F Q V b14 b15 b16 b17 cv av bc ba mA c0 cA n a0 aA g A)) :
    wpAnyH Try.prog .any hv8Ops Q (hv8P V bc ba mA c0 cA n a0 aA g A) 7 L (hv8f t b14 b15 b16 b17 cv av bc ba mA c0 cA n a0 aA g A (t 18) (.pointer (some ⟨p7, 0, none⟩)) (t 50) (.agg #[.slice a0 g.length c0]) (.int .i64 (n : Int)) (.int .i64 (n : Int)) (.agg #[.int .i64 2, .slice aA mA cA]) (.agg #[.int .i64 2, .slice a4 mA c4]) (t 56) (t 57) (t 58)) W := by
  subst hl
  unfold hv8f
  refine wpAnyH_ready (rs := [5, 9]) (by kernel_rfl) (by simp) ?_
  refine (AllReadyH.cons (o := hv8o5) rfl (fun K hK => ?_) (AllReadyH.cons (o := hv8o9) rfl (fun K hK => ?_) AllReadyH.nil))
  · rw [if_pos (by rfl)]
    unfold hv8o5
    go_simp
    go_at_call 60
    refine (HB.out.2.2.2 W a4 c4 l HG l_p l_s k4).mono ?_
    rintro e U ⟨aJ, cJ, bJ, nJ, dJ, rfl, l_n, gJ, mJ, g⟩
    replace y := y.grown g
    replace HG := World.grownBy.trans HG g
    clear g
    go_wp2_with fail
    refine hK.out _ _ (hv8S HB.out HG) (fun hHeld => ?_)
    clear hK K
    try simp only [sA, sB, sC]
    refine tk 6 hv8o6 ?_ rfl (by kernel_rfl) (fun c a w h => hp c a _ _ w h) (by rfl) ?_ hHeld ?_
    rotate_left 1
    · (intro W hSW; unfold hv8P at hSW; unfold hv8o6; first | (go_simp; done) | (go_simp; with_reducible rfl))
    try simp only [Act.put, sA, sB, sC]
    refine tk 7 hv8o7 ?_ rfl (by kernel_rfl) (fun c a w h => hp c a _ _ w h) (by rfl) ?_ hHeld ?_
    rotate_left 1
    · (intro W hSW; unfold hv8P at hSW; unfold hv8o7; first | (go_simp; done) | (go_simp; with_reducible rfl))
    try simp only [Act.put, sA, sB, sC]
    refine tk 8 hv8o8 ?_ rfl (by kernel_rfl) (fun c a w h => hp c a _ _ w h) (by rfl) ?_ hHeld ?_
    rotate_left 1
    · (intro W hSW; unfold hv8P at hSW; unfold hv8o8; first | (go_simp; done) | (go_simp; with_reducible rfl))
    try simp only [Act.put, sA, sB, sC]
    exact hv84 hp (by kernel_rfl) HB HG l_p l_s l_n gJ mJ y l_y HQ
  · rw [if_pos (by rfl)]
    unfold hv8o9
    go_simp
    have hg := World.grownBy_alloc W (.cells #[.slice none 0 0] 30) none
    have z := BoxZ.new W
    have l_z := World.grownBy.size HG
    replace k4 := k4.grown hg
    replace y := y.grown hg
    replace HG := World.grownBy.trans HG hg
    obtain ⟨U, hU⟩ : ∃ U, W.alloc (.cells #[.slice none 0 0] 30) = U := ⟨_, rfl⟩
    rw [hU] at HG k4 y z ⊢
    clear hU hg
    refine hK.out _ _ (hv8S HB.out HG) (fun hHeld => ?_)
    clear hK K
    try simp only [sA, sB, sC]
    exact hv86 hp (by kernel_rfl) HB HG l_p l_s k4 z l_z y l_y HQ

theorem hv89 (hp : ∀ c a d v w, Q (.panic c) (Act.put a d v) w → Q (.panic c) a w) {a4 : Option Addr} {c4 : Nat} {l : List Cl} (hl : L = #[true, true, true, true, true, false, false, false, false, false, false, false, false]) (HB : Hid (CB V bc a0 c0 g ∧ XB V ba 2 aA mA cA A ∧ (∀ U : World, V.grownBy U none → Calls Try.prog 44 #[.int .i64 (n : Int), .agg #[.int .i64 2, .slice aA mA cA]] U fun e w' => ∃ b d l, e = .returned (.agg #[.int .i64 2, .slice b mA d]) ∧ l.Perm (turnM n A) ∧ SortedCl l ∧ CellsW w' b d l ∧ U.grownBy w' none) ∧ (∀ (U : World) (b : Option Addr) (d : Nat) (l : List Cl), V.grownBy U none → l.Perm (turnM n A) → SortedCl l → CellsW U b d l → Calls Try.prog 60 #[.agg #[.slice a0 g.length c0], .int .i64 (n : Int), .agg #[.int .i64 2, .slice b mA d]] U (AnsM U (smP n g l).1 2 (smP n g l).2)))) (HG : V.grownBy W none) (l_p : l.Perm (turnM n A)) (l_s : SortedCl l) (k4 : CellsW W a4 c4 l) (HQ : Hid (hv8F Q V b14 b15 b16 b17 cv av bc ba mA c0 cA n a0 aA g A)) :
    wpAnyH Try.prog .any hv8Ops Q (hv8P V bc ba mA c0 cA n a0 aA g A) 8 L (hv8f t b14 b15 b16 b17 cv av bc ba mA c0 cA n a0 aA g A (t 18) (t 19) (t 50) (.agg #[.slice a0 g.length c0]) (.int .i64 (n : Int)) (.int .i64 (n : Int)) (.agg #[.int .i64 2, .slice aA mA cA]) (.agg #[.int .i64 2, .slice a4 mA c4]) (t 56) (t 57) (t 58)) W := by
  subst hl
  unfold hv8f
  refine wpAnyH_ready (rs := [5, 9, 10]) (by kernel_rfl) (by simp) ?_
  refine (AllReadyH.cons (o := hv8o5) rfl (fun K hK => ?_) (AllReadyH.cons (o := hv8o9) rfl (fun K hK => ?_) (AllReadyH.cons (o := hv8o10) rfl (fun K hK => ?_) AllReadyH.nil)))
  · rw [if_pos (by rfl)]
    unfold hv8o5
    go_simp
    go_at_call 60
    refine (HB.out.2.2.2 W a4 c4 l HG l_p l_s k4).mono ?_
    rintro e U ⟨aJ, cJ, bJ, nJ, dJ, rfl, l_n, gJ, mJ, g⟩
    replace HG := World.grownBy.trans HG g
    clear g
    go_wp2_with fail
    refine hK.out _ _ (hv8S HB.out HG) (fun hHeld => ?_)
    clear hK K
    try simp only [sA, sB, sC]
    refine tk 6 hv8o6 ?_ rfl (by kernel_rfl) (fun c a w h => hp c a _ _ w h) (by rfl) ?_ hHeld ?_
    rotate_left 1
    · (intro W hSW; unfold hv8P at hSW; unfold hv8o6; first | (go_simp; done) | (go_simp; with_reducible rfl))
    try simp only [Act.put, sA, sB, sC]
    refine tk 7 hv8o7 ?_ rfl (by kernel_rfl) (fun c a w h => hp c a _ _ w h) (by rfl) ?_ hHeld ?_
    rotate_left 1
    · (intro W hSW; unfold hv8P at hSW; unfold hv8o7; first | (go_simp; done) | (go_simp; with_reducible rfl))
    try simp only [Act.put, sA, sB, sC]
    refine tk 8 hv8o8 ?_ rfl (by kernel_rfl) (fun c a w h => hp c a _ _ w h) (by rfl) ?_ hHeld ?_
    rotate_left 1
    · (intro W hSW; unfold hv8P at hSW; unfold hv8o8; first | (go_simp; done) | (go_simp; with_reducible rfl))
    try simp only [Act.put, sA, sB, sC]
    exact hv85 hp (by kernel_rfl) HB HG l_p l_s l_n gJ mJ HQ
  · rw [if_pos (by rfl)]
    unfold hv8o9
    go_simp
    have hg := World.grownBy_alloc W (.cells #[.slice none 0 0] 30) none
    have z := BoxZ.new W
    have l_z := World.grownBy.size HG
    replace k4 := k4.grown hg
    replace HG := World.grownBy.trans HG hg
    obtain ⟨U, hU⟩ : ∃ U, W.alloc (.cells #[.slice none 0 0] 30) = U := ⟨_, rfl⟩
    rw [hU] at HG k4 z ⊢
    clear hU hg
    refine hK.out _ _ (hv8S HB.out HG) (fun hHeld => ?_)
    clear hK K
    try simp only [sA, sB, sC]
    exact hv87 hp (by kernel_rfl) HB HG l_p l_s k4 z l_z HQ
  · rw [if_pos (by rfl)]
    unfold hv8o10
    go_simp
    have hg := World.grownBy_alloc W (.cells #[.int .i64 0, .slice none 0 0] 26) none
    have y := XZ.new W
    have l_y := World.grownBy.size HG
    replace k4 := k4.grown hg
    replace HG := World.grownBy.trans HG hg
    obtain ⟨U, hU⟩ : ∃ U, W.alloc (.cells #[.int .i64 0, .slice none 0 0] 26) = U := ⟨_, rfl⟩
    rw [hU] at HG k4 y ⊢
    clear hU hg
    refine hK.out _ _ (hv8S HB.out HG) (fun hHeld => ?_)
    clear hK K
    try simp only [sA, sB, sC]
    exact hv88 hp (by kernel_rfl) HB HG l_p l_s k4 y l_y HQ

theorem hv810 (hp : ∀ c a d v w, Q (.panic c) (Act.put a d v) w → Q (.panic c) a w) {p6 : Nat} {p7 : Nat} (hl : L = #[true, true, true, true, false, false, false, false, false, true, true, false, false]) (HB : Hid (CB V bc a0 c0 g ∧ XB V ba 2 aA mA cA A ∧ (∀ U : World, V.grownBy U none → Calls Try.prog 44 #[.int .i64 (n : Int), .agg #[.int .i64 2, .slice aA mA cA]] U fun e w' => ∃ b d l, e = .returned (.agg #[.int .i64 2, .slice b mA d]) ∧ l.Perm (turnM n A) ∧ SortedCl l ∧ CellsW w' b d l ∧ U.grownBy w' none) ∧ (∀ (U : World) (b : Option Addr) (d : Nat) (l : List Cl), V.grownBy U none → l.Perm (turnM n A) → SortedCl l → CellsW U b d l → Calls Try.prog 60 #[.agg #[.slice a0 g.length c0], .int .i64 (n : Int), .agg #[.int .i64 2, .slice b mA d]] U (AnsM U (smP n g l).1 2 (smP n g l).2)))) (HG : V.grownBy W none) (z : BoxZ W p6) (l_z : V.heap.size ≤ p6) (y : XZ W p7) (l_y : V.heap.size ≤ p7) (HQ : Hid (hv8F Q V b14 b15 b16 b17 cv av bc ba mA c0 cA n a0 aA g A)) :
    wpAnyH Try.prog .any hv8Ops Q (hv8P V bc ba mA c0 cA n a0 aA g A) 7 L (hv8f t b14 b15 b16 b17 cv av bc ba mA c0 cA n a0 aA g A (.pointer (some ⟨p6, 0, none⟩)) (.pointer (some ⟨p7, 0, none⟩)) (t 50) (.agg #[.slice a0 g.length c0]) (.int .i64 (n : Int)) (.int .i64 (n : Int)) (.agg #[.int .i64 2, .slice aA mA cA]) (t 55) (t 56) (t 57) (t 58)) W := by
  subst hl
  unfold hv8f
  refine wpAnyH_ready (rs := [4]) (by kernel_rfl) (by simp) ?_
  refine (AllReadyH.cons (o := hv8o4) rfl (fun K hK => ?_) AllReadyH.nil)
  rw [if_pos (by rfl)]
  unfold hv8o4
  go_simp
  go_at_call 44
  refine (HB.out.2.2.1 W HG).mono ?_
  rintro e U ⟨a4, c4, l, rfl, l_p, l_s, k4, g⟩
  replace z := z.grown g
  replace y := y.grown g
  replace HG := World.grownBy.trans HG g
  clear g
  go_wp2_with fail
  refine hK.out _ _ (hv8S HB.out HG) (fun hHeld => ?_)
  clear hK K
  try simp only [sA, sB, sC]
  exact hv86 hp (by kernel_rfl) HB HG l_p l_s k4 z l_z y l_y HQ

theorem hv811 (hp : ∀ c a d v w, Q (.panic c) (Act.put a d v) w → Q (.panic c) a w) {p6 : Nat} (hl : L = #[true, true, true, true, false, false, false, false, false, true, false, false, false]) (HB : Hid (CB V bc a0 c0 g ∧ XB V ba 2 aA mA cA A ∧ (∀ U : World, V.grownBy U none → Calls Try.prog 44 #[.int .i64 (n : Int), .agg #[.int .i64 2, .slice aA mA cA]] U fun e w' => ∃ b d l, e = .returned (.agg #[.int .i64 2, .slice b mA d]) ∧ l.Perm (turnM n A) ∧ SortedCl l ∧ CellsW w' b d l ∧ U.grownBy w' none) ∧ (∀ (U : World) (b : Option Addr) (d : Nat) (l : List Cl), V.grownBy U none → l.Perm (turnM n A) → SortedCl l → CellsW U b d l → Calls Try.prog 60 #[.agg #[.slice a0 g.length c0], .int .i64 (n : Int), .agg #[.int .i64 2, .slice b mA d]] U (AnsM U (smP n g l).1 2 (smP n g l).2)))) (HG : V.grownBy W none) (z : BoxZ W p6) (l_z : V.heap.size ≤ p6) (HQ : Hid (hv8F Q V b14 b15 b16 b17 cv av bc ba mA c0 cA n a0 aA g A)) :
    wpAnyH Try.prog .any hv8Ops Q (hv8P V bc ba mA c0 cA n a0 aA g A) 8 L (hv8f t b14 b15 b16 b17 cv av bc ba mA c0 cA n a0 aA g A (.pointer (some ⟨p6, 0, none⟩)) (t 19) (t 50) (.agg #[.slice a0 g.length c0]) (.int .i64 (n : Int)) (.int .i64 (n : Int)) (.agg #[.int .i64 2, .slice aA mA cA]) (t 55) (t 56) (t 57) (t 58)) W := by
  subst hl
  unfold hv8f
  refine wpAnyH_ready (rs := [4, 10]) (by kernel_rfl) (by simp) ?_
  refine (AllReadyH.cons (o := hv8o4) rfl (fun K hK => ?_) (AllReadyH.cons (o := hv8o10) rfl (fun K hK => ?_) AllReadyH.nil))
  · rw [if_pos (by rfl)]
    unfold hv8o4
    go_simp
    go_at_call 44
    refine (HB.out.2.2.1 W HG).mono ?_
    rintro e U ⟨a4, c4, l, rfl, l_p, l_s, k4, g⟩
    replace z := z.grown g
    replace HG := World.grownBy.trans HG g
    clear g
    go_wp2_with fail
    refine hK.out _ _ (hv8S HB.out HG) (fun hHeld => ?_)
    clear hK K
    try simp only [sA, sB, sC]
    exact hv87 hp (by kernel_rfl) HB HG l_p l_s k4 z l_z HQ
  · rw [if_pos (by rfl)]
    unfold hv8o10
    go_simp
    have hg := World.grownBy_alloc W (.cells #[.int .i64 0, .slice none 0 0] 26) none
    have y := XZ.new W
    have l_y := World.grownBy.size HG
    replace z := z.grown hg
    replace HG := World.grownBy.trans HG hg
    obtain ⟨U, hU⟩ : ∃ U, W.alloc (.cells #[.int .i64 0, .slice none 0 0] 26) = U := ⟨_, rfl⟩
    rw [hU] at HG z y ⊢
    clear hU hg
    refine hK.out _ _ (hv8S HB.out HG) (fun hHeld => ?_)
    clear hK K
    try simp only [sA, sB, sC]
    exact hv810 hp (by kernel_rfl) HB HG z l_z y l_y HQ

theorem hv812 (hp : ∀ c a d v w, Q (.panic c) (Act.put a d v) w → Q (.panic c) a w) {p7 : Nat} (hl : L = #[true, true, true, true, false, false, false, false, false, false, true, false, false]) (HB : Hid (CB V bc a0 c0 g ∧ XB V ba 2 aA mA cA A ∧ (∀ U : World, V.grownBy U none → Calls Try.prog 44 #[.int .i64 (n : Int), .agg #[.int .i64 2, .slice aA mA cA]] U fun e w' => ∃ b d l, e = .returned (.agg #[.int .i64 2, .slice b mA d]) ∧ l.Perm (turnM n A) ∧ SortedCl l ∧ CellsW w' b d l ∧ U.grownBy w' none) ∧ (∀ (U : World) (b : Option Addr) (d : Nat) (l : List Cl), V.grownBy U none → l.Perm (turnM n A) → SortedCl l → CellsW U b d l → Calls Try.prog 60 #[.agg #[.slice a0 g.length c0], .int .i64 (n : Int), .agg #[.int .i64 2, .slice b mA d]] U (AnsM U (smP n g l).1 2 (smP n g l).2)))) (HG : V.grownBy W none) (y : XZ W p7) (l_y : V.heap.size ≤ p7) (HQ : Hid (hv8F Q V b14 b15 b16 b17 cv av bc ba mA c0 cA n a0 aA g A)) :
    wpAnyH Try.prog .any hv8Ops Q (hv8P V bc ba mA c0 cA n a0 aA g A) 8 L (hv8f t b14 b15 b16 b17 cv av bc ba mA c0 cA n a0 aA g A (t 18) (.pointer (some ⟨p7, 0, none⟩)) (t 50) (.agg #[.slice a0 g.length c0]) (.int .i64 (n : Int)) (.int .i64 (n : Int)) (.agg #[.int .i64 2, .slice aA mA cA]) (t 55) (t 56) (t 57) (t 58)) W := by
  subst hl
  unfold hv8f
  refine wpAnyH_ready (rs := [4, 9]) (by kernel_rfl) (by simp) ?_
  refine (AllReadyH.cons (o := hv8o4) rfl (fun K hK => ?_) (AllReadyH.cons (o := hv8o9) rfl (fun K hK => ?_) AllReadyH.nil))
  · rw [if_pos (by rfl)]
    unfold hv8o4
    go_simp
    go_at_call 44
    refine (HB.out.2.2.1 W HG).mono ?_
    rintro e U ⟨a4, c4, l, rfl, l_p, l_s, k4, g⟩
    replace y := y.grown g
    replace HG := World.grownBy.trans HG g
    clear g
    go_wp2_with fail
    refine hK.out _ _ (hv8S HB.out HG) (fun hHeld => ?_)
    clear hK K
    try simp only [sA, sB, sC]
    exact hv88 hp (by kernel_rfl) HB HG l_p l_s k4 y l_y HQ
  · rw [if_pos (by rfl)]
    unfold hv8o9
    go_simp
    have hg := World.grownBy_alloc W (.cells #[.slice none 0 0] 30) none
    have z := BoxZ.new W
    have l_z := World.grownBy.size HG
    replace y := y.grown hg
    replace HG := World.grownBy.trans HG hg
    obtain ⟨U, hU⟩ : ∃ U, W.alloc (.cells #[.slice none 0 0] 30) = U := ⟨_, rfl⟩
    rw [hU] at HG y z ⊢
    clear hU hg
    refine hK.out _ _ (hv8S HB.out HG) (fun hHeld => ?_)
    clear hK K
    try simp only [sA, sB, sC]
    exact hv810 hp (by kernel_rfl) HB HG z l_z y l_y HQ

theorem hv813 (hp : ∀ c a d v w, Q (.panic c) (Act.put a d v) w → Q (.panic c) a w)  (hl : L = #[true, true, true, true, false, false, false, false, false, false, false, false, false]) (HB : Hid (CB V bc a0 c0 g ∧ XB V ba 2 aA mA cA A ∧ (∀ U : World, V.grownBy U none → Calls Try.prog 44 #[.int .i64 (n : Int), .agg #[.int .i64 2, .slice aA mA cA]] U fun e w' => ∃ b d l, e = .returned (.agg #[.int .i64 2, .slice b mA d]) ∧ l.Perm (turnM n A) ∧ SortedCl l ∧ CellsW w' b d l ∧ U.grownBy w' none) ∧ (∀ (U : World) (b : Option Addr) (d : Nat) (l : List Cl), V.grownBy U none → l.Perm (turnM n A) → SortedCl l → CellsW U b d l → Calls Try.prog 60 #[.agg #[.slice a0 g.length c0], .int .i64 (n : Int), .agg #[.int .i64 2, .slice b mA d]] U (AnsM U (smP n g l).1 2 (smP n g l).2)))) (HG : V.grownBy W none)  (HQ : Hid (hv8F Q V b14 b15 b16 b17 cv av bc ba mA c0 cA n a0 aA g A)) :
    wpAnyH Try.prog .any hv8Ops Q (hv8P V bc ba mA c0 cA n a0 aA g A) 9 L (hv8f t b14 b15 b16 b17 cv av bc ba mA c0 cA n a0 aA g A (t 18) (t 19) (t 50) (.agg #[.slice a0 g.length c0]) (.int .i64 (n : Int)) (.int .i64 (n : Int)) (.agg #[.int .i64 2, .slice aA mA cA]) (t 55) (t 56) (t 57) (t 58)) W := by
  subst hl
  unfold hv8f
  refine wpAnyH_ready (rs := [4, 9, 10]) (by kernel_rfl) (by simp) ?_
  refine (AllReadyH.cons (o := hv8o4) rfl (fun K hK => ?_) (AllReadyH.cons (o := hv8o9) rfl (fun K hK => ?_) (AllReadyH.cons (o := hv8o10) rfl (fun K hK => ?_) AllReadyH.nil)))
  · rw [if_pos (by rfl)]
    unfold hv8o4
    go_simp
    go_at_call 44
    refine (HB.out.2.2.1 W HG).mono ?_
    rintro e U ⟨a4, c4, l, rfl, l_p, l_s, k4, g⟩
    replace HG := World.grownBy.trans HG g
    clear g
    go_wp2_with fail
    refine hK.out _ _ (hv8S HB.out HG) (fun hHeld => ?_)
    clear hK K
    try simp only [sA, sB, sC]
    exact hv89 hp (by kernel_rfl) HB HG l_p l_s k4 HQ
  · rw [if_pos (by rfl)]
    unfold hv8o9
    go_simp
    have hg := World.grownBy_alloc W (.cells #[.slice none 0 0] 30) none
    have z := BoxZ.new W
    have l_z := World.grownBy.size HG
    replace HG := World.grownBy.trans HG hg
    obtain ⟨U, hU⟩ : ∃ U, W.alloc (.cells #[.slice none 0 0] 30) = U := ⟨_, rfl⟩
    rw [hU] at HG  z ⊢
    clear hU hg
    refine hK.out _ _ (hv8S HB.out HG) (fun hHeld => ?_)
    clear hK K
    try simp only [sA, sB, sC]
    exact hv811 hp (by kernel_rfl) HB HG z l_z HQ
  · rw [if_pos (by rfl)]
    unfold hv8o10
    go_simp
    have hg := World.grownBy_alloc W (.cells #[.int .i64 0, .slice none 0 0] 26) none
    have y := XZ.new W
    have l_y := World.grownBy.size HG
    replace HG := World.grownBy.trans HG hg
    obtain ⟨U, hU⟩ : ∃ U, W.alloc (.cells #[.int .i64 0, .slice none 0 0] 26) = U := ⟨_, rfl⟩
    rw [hU] at HG  y ⊢
    clear hU hg
    refine hK.out _ _ (hv8S HB.out HG) (fun hHeld => ?_)
    clear hK K
    try simp only [sA, sB, sC]
    exact hv812 hp (by kernel_rfl) HB HG y l_y HQ

theorem hv8_all {t0 t1 t2 t3 t4 t5 t6 t7 t8 t18 t19 t20 t21 t22 t23 t24 t25 t26 t27 t28 t29 t30 t31 t32 t33 t34 t35 t36 t37 t38 t39 t40 t41 t42 t43 t44 t45 t46 t47 t48 t49 t50 t51 t52 t53 t54 t55 t56 t57 t58 t59 t60 t61 t62 t63 t64 t65 t66 t67 t68 t69 t70 t71 t72 t73 t74 t75 t76 t77 t78 t79 t80 t81 t82 t83 : Value} (hp : ∀ c a d v w, Q (.panic c) (Act.put a d v) w → Q (.panic c) a w) (HB : Hid (CB V bc a0 c0 g ∧ XB V ba 2 aA mA cA A ∧ (∀ U : World, V.grownBy U none → Calls Try.prog 44 #[.int .i64 (n : Int), .agg #[.int .i64 2, .slice aA mA cA]] U fun e w' => ∃ b d l, e = .returned (.agg #[.int .i64 2, .slice b mA d]) ∧ l.Perm (turnM n A) ∧ SortedCl l ∧ CellsW w' b d l ∧ U.grownBy w' none) ∧ (∀ (U : World) (b : Option Addr) (d : Nat) (l : List Cl), V.grownBy U none → l.Perm (turnM n A) → SortedCl l → CellsW U b d l → Calls Try.prog 60 #[.agg #[.slice a0 g.length c0], .int .i64 (n : Int), .agg #[.int .i64 2, .slice b mA d]] U (AnsM U (smP n g l).1 2 (smP n g l).2)))) (HQ : Hid (hv8F Q V b14 b15 b16 b17 cv av bc ba mA c0 cA n a0 aA g A)) :
    (Code.region 8 hv8Ops true).wp Try.prog Q ⟨#[t0, t1, t2, t3, t4, t5, t6, t7, t8, .bool true, .pointer (some ⟨bc, 0, none⟩), .int .i64 (n : Int), .pointer (some ⟨ba, 0, none⟩), .slice av 8 cv, .pointer (some ⟨b14, 0, none⟩), .pointer (some ⟨b15, 0, none⟩), .pointer (some ⟨b16, 0, none⟩), .pointer (some ⟨b17, 0, none⟩), t18, t19, t20, t21, t22, t23, t24, t25, t26, t27, t28, t29, t30, t31, t32, t33, t34, t35, t36, t37, t38, t39, t40, t41, t42, t43, t44, t45, t46, t47, t48, t49, t50, t51, t52, t53, t54, t55, t56, t57, t58, t59, t60, t61, t62, t63, t64, t65, t66, t67, t68, t69, t70, t71, t72, t73, t74, t75, t76, t77, t78, t79, t80, t81, t82, t83], []⟩ V := by
  have HG := ((⟨rfl, rfl, rfl, Nat.le_refl _, fun _ _ _ => rfl⟩ : V.grownBy V.drew none))
  refine wp_region_held_drew (S := (hv8P V bc ba mA c0 cA n a0 aA g A)) (by kernel_rfl) (hv8S HB.out HG) (fun hHeld => ?_)
  refine tk 0 hv8o0 ?_ rfl (by kernel_rfl) (fun c a w h => hp c a _ _ w h) (by rfl) ?_ hHeld ?_
  rotate_left 1
  · (intro W hSW; unfold hv8P at hSW; unfold hv8o0; first | (go_simp; done) | (go_simp; with_reducible rfl))
  try simp only [Act.put, sA, sB, sC]
  refine tk 1 hv8o1 ?_ rfl (by kernel_rfl) (fun c a w h => hp c a _ _ w h) (by rfl) ?_ hHeld ?_
  rotate_left 1
  · (intro W hSW; unfold hv8P at hSW; unfold hv8o1; first | (go_simp; done) | (go_simp; with_reducible rfl))
  try simp only [Act.put, sA, sB, sC]
  refine tk 2 hv8o2 ?_ rfl (by kernel_rfl) (fun c a w h => hp c a _ _ w h) (by rfl) ?_ hHeld ?_
  rotate_left 1
  · (intro W hSW; unfold hv8P at hSW; unfold hv8o2; first | (go_simp; done) | (go_simp; with_reducible rfl))
  try simp only [Act.put, sA, sB, sC]
  refine tk 3 hv8o3 ?_ rfl (by kernel_rfl) (fun c a w h => hp c a _ _ w h) (by rfl) ?_ hHeld ?_
  rotate_left 1
  · (intro W hSW; unfold hv8P at hSW; unfold hv8o3; first | (go_simp; done) | (go_simp; with_reducible rfl))
  try simp only [Act.put, sA, sB, sC]
  exact hv813 (t := fun k => List.getD [t0, t1, t2, t3, t4, t5, t6, t7, t8, undef, undef, undef, undef, undef, undef, undef, undef, undef, t18, t19, t20, t21, t22, t23, t24, t25, t26, t27, t28, t29, t30, t31, t32, t33, t34, t35, t36, t37, t38, t39, t40, t41, t42, t43, t44, t45, t46, t47, t48, t49, t50, t51, t52, t53, t54, t55, t56, t57, t58, t59, t60, t61, t62, t63, t64, t65, t66, t67, t68, t69, t70, t71, t72, t73, t74, t75, t76, t77, t78, t79, t80, t81, t82, t83] k undef) hp (by kernel_rfl) HB HG HQ
end
end Go.Proofs.Ythdhmflodiincaa

/- The contracts over named answers; the examples. -/
import Derived.Test.YthagoihpppppkaaS1
namespace Go.Proofs.Ythagoihpppppkaa
open Go.RowKit Go.Maps

/-- A circuit and a row of n references are handed back. -/
def AnsN (w : World) (g : List Gt) (l : List Int) (n : Nat) (x : Ending) (w' : World) : Prop := ∃ a c b d, x = .returned (.tuple #[.agg #[.slice a g.length c], .slice b n d]) ∧ GatesW w' a c g ∧ IntsW w' b d l ∧ w.grownBy w' none
theorem AnsL.n {w w' : World} {g : List Gt} {l : List Int} {n : Nat} {x : Ending} (h : AnsL w g l x w') (hn : l.length = n) : AnsN w g l n x w' := by subst hn; exact h
section
variable {gs g' : List Gt} {l l' m : List Int} {n n2 k : Nat} {a : Option Addr} {c : Nat} {b : Option Addr} {d : Nat} {b2 : Option Addr} {d2 : Nat} {w : World}
theorem sorter_n (hn : l.length = n) (e : (sorterP l).run gs = (g', l')) (hG : Good gs) (hl : gs.length ≤ 850) (ho : ∀ r ∈ l, Ok gs r) (h16 : l.length ≤ 16) (h : GatesW w a c gs) (hi : IntsW w b d l) :
    Calls Try.prog 14 #[.agg #[.slice a gs.length c], .slice b n d] w (AnsN w g' l' n) := by
  have h1 := sorter_calls gs l a c b d w h hi hG hl ho h16
  have h2 := (sorter_len hG hl ho).2.2
  rw [e] at h1 h2
  rw [hn] at h1 h2
  exact h1.mono (fun x w' hh => hh.n h2)
theorem totalizer_n (hn : l.length = n) (e : (totalP 6 l).run gs = (g', l')) (hG : Good gs) (ho : ∀ r ∈ l, Ok gs r) (h64 : l.length ≤ 64) (hl : gs.length + costT 6 l.length ≤ 990) (h : GatesW w a c gs) (hi : IntsW w b d l) :
    Calls Try.prog 15 #[.agg #[.slice a gs.length c], .slice b n d] w (AnsN w g' l' n) := by
  have h1 := totalizer_calls gs l a c b d w h hi hG ho h64 hl
  have h2 := (Pr.safe_run _ (safe_totalP 6 l hG ho (by simpa using h64) (by omega))).2.2.1
  rw [e] at h1 h2
  rw [hn] at h1 h2
  exact h1.mono (fun x w' hh => hh.n h2)
theorem add_n (hn : l.length = n) (hn2 : m.length = n2) (hk : n + n2 = k) (e : (addP l m).run gs = (g', l')) (hG : Good gs) (ho : ∀ r ∈ l, Ok gs r) (ho2 : ∀ r ∈ m, Ok gs r) (h64 : l.length ≤ 64) (h642 : m.length ≤ 64) (hl : gs.length + costA l.length m.length ≤ 990) (h : GatesW w a c gs) (hi : IntsW w b d l) (hi2 : IntsW w b2 d2 m) :
    Calls Try.prog 20 #[.agg #[.slice a gs.length c], .slice b n d, .slice b2 n2 d2] w (AnsN w g' l' k) := by
  have h1 := add20_calls gs l m a c b d b2 d2 w h hi hi2 hG ho ho2 h64 h642 hl
  have h2 := (Pr.safe_run _ (safe_addP hG ho ho2 (by omega))).2.2.1
  rw [e] at h1 h2
  rw [hn, hn2] at h1 h2
  rw [hk] at h2
  exact h1.mono (fun x w' hh => hh.n h2)
theorem less_n {r : Int} {y : Int} (hn : l.length = n) (hn2 : m.length = n2) (e : (lessP l m y).run gs = (g', r)) (hG : Good gs) (ho : ∀ r ∈ l, Ok gs r) (ho2 : ∀ r ∈ m, Ok gs r) (h64 : l.length ≤ 64) (h642 : m.length ≤ 64) (hl : gs.length + 2 * (m.length + 1) ≤ 990) (hy : -1000 ≤ y ∧ y ≤ 1000) (h : GatesW w a c gs) (hi : IntsW w b d l) (hi2 : IntsW w b2 d2 m) :
    Calls Try.prog 21 #[.agg #[.slice a gs.length c], .slice b n d, .slice b2 n2 d2, .int .i64 y] w (Ans w g' r) := by
  have h1 := less_calls gs l m y a c b d b2 d2 w h hi hi2 hG (fun r hr => ok_i64 (by omega) (ho r hr)) (fun r hr => ok_i64 (by omega) (ho2 r hr)) h64 h642 hl hy
  rw [e] at h1
  rw [hn, hn2] at h1
  exact h1
theorem atleast_n {r : Int} {y : Int} (hn : l.length = n) (e : (atlP l y).run gs = (g', r)) (hG : Good gs) (hl : gs.length ≤ 850) (ho : ∀ r ∈ l, Ok gs r) (h16 : l.length ≤ 16) (h : GatesW w a c gs) (hi : IntsW w b d l) :
    Calls Try.prog 17 #[.agg #[.slice a gs.length c], .slice b n d, .int .i64 y] w (Ans w g' r) := by
  have h1 := atleast_calls gs l y a c b d w h hi hG hl ho h16
  rw [e] at h1
  rw [hn] at h1
  exact h1
theorem count_n (hn : l.length = n) (e : (countP l).run gs = (g', l')) (hG : Good gs) (ho : ∀ r ∈ l, Ok gs r) (h64 : l.length ≤ 64) (hl : gs.length + costC 0 l.length ≤ 850) (h : GatesW w a c gs) (hi : IntsW w b d l) :
    Calls Try.prog 19 #[.agg #[.slice a gs.length c], .slice b n d] w (AnsN w g' l' n) := by
  have h1 := count_calls l a c b d w gs h hi hG ho hl h64
  have h2 := (Pr.safe_run _ (safe_countP l [] hG ho (by simp) (by show _ + costC 0 l.length ≤ _; omega))).2.2.1
  have h3 : ((countP l).run gs).2.length = n := by rw [← hn]; have h9 := h2; rw [List.length_nil, Nat.zero_add] at h9; exact h9
  rw [e] at h1 h3
  rw [hn] at h1
  exact h1.mono (fun x w' hh => hh.n h3)
theorem number_n {vals : List Bool} {va : Option Addr} {vc nv q : Nat} (hn : l.length = n) (hv : vals.length = nv) (e : numE gs vals l = q) (hG : Good gs) (hl : gs.length ≤ 1000) (hlu : l.length ≤ 1000) (hlv : vals.length ≤ 1000) (hb : ∀ r ∈ l, r ≤ 9223372036854775807) (h : GatesW w a c gs) (hu : IntsW w b d l) (hvs : BoolsW w va vc vals) :
    Calls Try.prog 13 #[.agg #[.slice a gs.length c], .slice b n d, .slice va nv vc] w fun x w' => x = .returned (.int .i64 (q : Int)) ∧ w.grownBy w' none := by
  subst hn hv e
  exact number_calls gs l vals a c b d va vc w h hu hvs hG hl hlu hlv hb
theorem value_n {vals : List Bool} {va : Option Addr} {vc nv q : Nat} (hn : l.length = n) (hv : vals.length = nv) (e : numE gs vals l = q) (hG : Good gs) (hl : gs.length ≤ 1000) (hlu : l.length ≤ 1000) (hlv : vals.length ≤ 1000) (hb : ∀ r ∈ l, r ≤ 9223372036854775807) (h : GatesW w a c gs) (hu : IntsW w b d l) (hvs : BoolsW w va vc vals) :
    Calls Try.prog 22 #[.agg #[.slice a gs.length c], .slice b n d, .slice va nv vc] w fun x w' => x = .returned (.int .i64 (q : Int)) ∧ w.grownBy w' none := by
  subst hn hv e
  exact value22_calls gs l vals a c b d va vc w h hu hvs hG hl hlu hlv hb
theorem unary_n {vals : List Bool} {va : Option Addr} {vc nv : Nat} {y : Int} {q : Bool} (hn : l.length = n) (hv : vals.length = nv) (e : unE gs vals l y = q) (hG : Good gs) (hl : gs.length ≤ 1000) (hlu : l.length ≤ 1000) (hlv : vals.length ≤ 1000) (hb : ∀ r ∈ l, r ≤ 9223372036854775807) (hy : -1000000 ≤ y ∧ y ≤ 1000000) (h : GatesW w a c gs) (hu : IntsW w b d l) (hvs : BoolsW w va vc vals) :
    Calls Try.prog 16 #[.agg #[.slice a gs.length c], .slice b n d, .slice va nv vc, .int .i64 y] w fun x w' => x = .returned (.bool q) ∧ w.grownBy w' none := by
  subst hn hv e
  exact unary_calls gs l vals a c b d va vc w h hu hvs hG hl hlu hlv hb y hy
theorem ints_two (w : World) (x y : Int) : IntsW (w.alloc (.cells #[.int .i64 x, .int .i64 y] 3)) (some ⟨w.heap.size, 0, none⟩) 2 [x, y] :=
  ⟨Nat.le_refl _, .inr ⟨w.heap.size, 0, rfl, fun j z hj => by
    rcases j with _ | _ | j
    · simp at hj; subst hj; exact (one_cells w (.int .i64 x) (.int .i64 y) 3).2.1
    · simp at hj; subst hj; exact (one_cells w (.int .i64 x) (.int .i64 y) 3).2.2.1
    · simp at hj⟩⟩
theorem bools_two (w : World) (x y : Bool) : BoolsW (w.alloc (.cells #[.bool x, .bool y] 4)) (some ⟨w.heap.size, 0, none⟩) 2 [x, y] :=
  ⟨Nat.le_refl _, .inr ⟨w.heap.size, 0, rfl, fun j z hj => by
    rcases j with _ | _ | j
    · simp at hj; subst hj; exact (one_cells w (.bool x) (.bool y) 4).2.1
    · simp at hj; subst hj; exact (one_cells w (.bool x) (.bool y) 4).2.2.1
    · simp at hj⟩⟩
theorem ints_three (w : World) (x y u : Int) : IntsW (w.alloc (.cells #[.int .i64 x, .int .i64 y, .int .i64 u] 3)) (some ⟨w.heap.size, 0, none⟩) 3 [x, y, u] :=
  ⟨Nat.le_refl _, .inr ⟨w.heap.size, 0, rfl, fun j z hj => by
    rcases j with _ | _ | _ | j
    · simp at hj; subst hj; go_simp
    · simp at hj; subst hj; go_simp
    · simp at hj; subst hj; go_simp
    · simp at hj⟩⟩
end
def c1G : List Gt := [(0, 0, 0), (1, 1, 0)]
def dG : List Gt := [(0, 0, 0), (1, 1, 0), (1, 2, 0)]
theorem c1_in : inputC [(0, 0, 0)] 1 = (c1G, 2) := by decide +kernel
theorem d_in : inputC c1G 2 = (dG, 4) := by decide +kernel
theorem good_c1 : Good c1G := by have := (step_input good_new 1).good; rw [c1_in] at this; exact this
theorem good_d : Good dG := by have := (step_input good_c1 2).good; rw [d_in] at this; exact this
def v2 : List Bool := [false, true]
theorem hd_s : unE ((sorterP [2, 4]).run dG).1 v2 ((sorterP [2, 4]).run dG).2 1 = true ∧ numE ((sorterP [2, 4]).run dG).1 v2 ((sorterP [2, 4]).run dG).2 = 1 := by decide +kernel
theorem hd_t : unE ((totalP 6 [4, 2]).run dG).1 v2 ((totalP 6 [4, 2]).run dG).2 1 = true := by decide +kernel
theorem hd_k : evalC ((atlP [2, 4] 2).run dG).1 v2 ((atlP [2, 4] 2).run dG).2 = false ∧ evalC ((atlP [2, 4] 2).run dG).1 [true, true] ((atlP [2, 4] 2).run dG).2 = true := by decide +kernel
theorem hd_g : evalC ((lessP [] [] 1).run dG).1 v2 ((lessP [] [] 1).run dG).2 = true := by decide +kernel
theorem hd_m : evalC dG v2 ((lessP [] [] 0).run dG).2 = false := by decide +kernel
theorem hd_h : unE ((addP [2] [4]).run dG).1 v2 ((addP [2] [4]).run dG).2 1 = true := by decide +kernel
theorem hd_a : ((atlP [2, 4] 0).run dG).2 = 0 ∧ ((atlP [2, 4] 3).run dG).2 = 1 := by decide +kernel
theorem hd_v : numE dG v2 [2, 4, 4] = 2 := by decide +kernel
theorem hd_le : ((atlP [2, 4] 2).run dG).2 ≤ 9223372036854775807 ∧ ((lessP [] [] 1).run dG).2 ≤ 9223372036854775807 ∧ ((lessP [] [] 0).run dG).2 ≤ 9223372036854775807 := by decide +kernel
theorem ok_24 : ∀ r ∈ ([2, 4] : List Int), Ok dG r := by unfold Ok dG; simp
theorem ok_42 : ∀ r ∈ ([4, 2] : List Int), Ok dG r := by unfold Ok dG; simp
theorem ok_2 : ∀ r ∈ ([2] : List Int), Ok dG r := by unfold Ok dG; simp
theorem ok_4 : ∀ r ∈ ([4] : List Int), Ok dG r := by unfold Ok dG; simp
theorem hd_small (x : Pr (List Int)) (h : x.most 200) : (x.run dG).1.length ≤ 300 ∧ Good (x.run dG).1 := ⟨by have := Pr.len x dG h; have e : dG.length = 3 := rfl; omega, (Pr.step x good_d).1⟩
theorem hd_small2 (x : Pr Int) (h : x.most 200) : (x.run dG).1.length ≤ 300 ∧ Good (x.run dG).1 := ⟨by have := Pr.len x dG h; have e : dG.length = 3 := rfl; omega, (Pr.step x good_d).1⟩
end Go.Proofs.Ythagoihpppppkaa

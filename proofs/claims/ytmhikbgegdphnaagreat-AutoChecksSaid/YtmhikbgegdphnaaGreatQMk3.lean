import Derived.Test.YtmhikbgegdphnaaGreatQAut3
import Derived.Test.YtmhikbgegdphnaaGreatQRowE
namespace Go.Am
set_option linter.unusedSimpArgs false
set_option linter.unusedVariables false
open Go.RowKit
theorem e4_len (r : R4) : (e4 r).length = 4 := rfl
theorem e4_one (r : R4) : (e4 r).all (·.oneCell') = true := rfl
theorem e3_len (r : R3) : (e3 r).length = 3 := rfl
theorem e3_one (r : R3) : (e3 r).all (·.oneCell') = true := rfl
def kindsI (ss : List (ByteArray × Int)) (k : Int) (i : Nat) : List Int := (((List.range i).filter fun j => match ss[j]? with | some x => decide (x.2 = k) | none => false).map fun (j : Nat) => (j : Int))
theorem kindsI_succ (ss : List (ByteArray × Int)) (k : Int) {i : Nat} (hi : i < ss.length) : kindsI ss k (i + 1) = if ss[i].2 = k then kindsI ss k i ++ [(i : Int)] else kindsI ss k i := by
  unfold kindsI
  rw [List.range_succ, List.filter_append, List.map_append]
  simp only [List.filter_cons, List.filter_nil, List.getElem?_eq_getElem hi, decide_eq_true_eq]
  split <;> simp_all
theorem kindsI_len (ss : List (ByteArray × Int)) (k : Int) (i : Nat) : (kindsI ss k i).length ≤ i := by
  unfold kindsI
  rw [List.length_map]
  refine Nat.le_trans (List.length_filter_le _ _) ?_
  simp
theorem kindsI_mem {ss : List (ByteArray × Int)} {k : Int} {i : Nat} (hi : i ≤ ss.length) {x : Int} (h : x ∈ kindsI ss k i) : kdF ss x k = true := by
  unfold kindsI at h
  rw [List.mem_map] at h
  obtain ⟨j, hj, rfl⟩ := h
  rw [List.mem_filter, List.mem_range] at hj
  obtain ⟨h1, h2⟩ := hj
  unfold kdF
  rw [Int.toNat_natCast]
  have h3 : j < ss.length := by omega
  simp only [List.getElem?_eq_getElem h3, decide_eq_true_eq] at h2 ⊢
  simp [h2, h3]
def pickF (ss : List (ByteArray × Int)) (k x : Int) : Int := match (kindsI ss k ss.length)[(x % ((kindsI ss k ss.length).length : Int)).toNat]? with | some y => y | none => -1
theorem pickF_kind {ss : List (ByteArray × Int)} {k x : Int} (h : 0 ≤ pickF ss k x) : kdF ss (pickF ss k x) k = true := by
  unfold pickF at *
  split at h
  · rename_i y hy
    exact kindsI_mem (Nat.le_refl _) (List.mem_of_getElem? hy)
  · omega
def putI (a : Aut) (p : Int) : Aut := ⟨a.N, a.G, a.init ++ [p], a.final, a.opens, a.closes, a.inners⟩
def putF (a : Aut) (p : Int) : Aut := ⟨a.N, a.G, a.init, a.final ++ [p], a.opens, a.closes, a.inners⟩
def putO (a : Aut) (p : R4) : Aut := ⟨a.N, a.G, a.init, a.final, a.opens ++ [p], a.closes, a.inners⟩
def putC (a : Aut) (p : R4) : Aut := ⟨a.N, a.G, a.init, a.final, a.opens, a.closes ++ [p], a.inners⟩
def putN (a : Aut) (p : R3) : Aut := ⟨a.N, a.G, a.init, a.final, a.opens, a.closes, a.inners ++ [p]⟩
def stepM (ss : List (ByteArray × Int)) (a : Aut) (x : Int) : Aut :=
  let y := x % 1099511627776
  let p := y / 8 % a.N
  let q := y / 80 % a.N
  let z := y / 800 % 7
  if y % 8 = 0 then putI a p
  else if y % 8 = 1 then putF a p
  else if y % 8 = 2 ∨ y % 8 = 3 then (if 0 ≤ pickF ss 1 z then putO a (p, pickF ss 1 z, q, 1 + y / 8000 % a.G) else a)
  else if y % 8 = 4 ∨ y % 8 = 5 then (if 0 ≤ pickF ss 2 z then putC a (p, pickF ss 2 z, y / 8000 % (a.G + 1), q) else a)
  else (if 0 ≤ pickF ss 3 z then putN a (p, pickF ss 3 z, q) else a)
def startM (size most : Int) : Aut := ⟨1 + size % most, 1 + size.tdiv 7 % 2, [], [], [], [], []⟩
def foldM (ss : List (ByteArray × Int)) (size most : Int) (ns : List Int) (i : Nat) : Aut := (ns.take i).foldl (stepM ss) (startM size most)
def lastM (a : Aut) : Aut := if a.init = [] then putI a 0 else a
def makeM (ss : List (ByteArray × Int)) (size most : Int) (ns : List Int) : Aut := lastM (foldM ss size most ns 24)
theorem foldM_succ (ss : List (ByteArray × Int)) (size most : Int) (ns : List Int) {i : Nat} (hi : i < ns.length) : foldM ss size most ns (i + 1) = stepM ss (foldM ss size most ns i) ns[i] := by
  unfold foldM
  rw [List.take_succ_eq_append_getElem hi, List.foldl_append]
  rfl
structure GoodM (ss : List (ByteArray × Int)) (most : Int) (a : Aut) (i : Nat) : Prop where
  N0 : 1 ≤ a.N
  N1 : a.N ≤ most
  G0 : 1 ≤ a.G
  G1 : a.G ≤ 2
  init : a.init.all (stF a.N) = true
  final : a.final.all (stF a.N) = true
  opens : a.opens.all (okO ss a) = true
  closes : a.closes.all (okC ss a) = true
  inners : a.inners.all (okI ss a) = true
  len : a.init.length ≤ i ∧ a.final.length ≤ i ∧ a.opens.length ≤ i ∧ a.closes.length ≤ i ∧ a.inners.length ≤ i
theorem GoodM.start (ss : List (ByteArray × Int)) {size most : Int} (h : 1 ≤ most) : GoodM ss most (startM size most) 0 := by
  have h1 := Int.emod_nonneg size (show most ≠ 0 by omega)
  have h2 := Int.emod_lt_of_pos size (show 0 < most by omega)
  have h3 := Int.emod_nonneg (size.tdiv 7) (show (2 : Int) ≠ 0 by omega)
  have h4 := Int.emod_lt_of_pos (size.tdiv 7) (show (0 : Int) < 2 by omega)
  exact ⟨by simp [startM]; omega, by simp [startM]; omega, by simp [startM]; omega, by simp [startM]; omega, rfl, rfl, rfl, rfl, rfl, by simp [startM]⟩
theorem all_snoc {α : Type} {p : α → Bool} {l : List α} {x : α} (h : l.all p = true) (hx : p x = true) : (l ++ [x]).all p = true := by
  rw [List.all_append, h]
  simp [hx]
theorem stF_mod {N x : Int} (h : 1 ≤ N) : stF N (x % N) = true := by
  have h1 := Int.emod_nonneg x (show N ≠ 0 by omega)
  have h2 := Int.emod_lt_of_pos x (show 0 < N by omega)
  simp [stF, h1, h2]
theorem GoodM.up {ss : List (ByteArray × Int)} {most : Int} {a : Aut} {i : Nat} (h : GoodM ss most a i) : GoodM ss most a (i + 1) :=
  ⟨h.N0, h.N1, h.G0, h.G1, h.init, h.final, h.opens, h.closes, h.inners, by have := h.len; omega⟩
theorem GoodM.putI {ss : List (ByteArray × Int)} {most : Int} {a : Aut} {i : Nat} {p : Int} (h : GoodM ss most a i) (hp : stF a.N p = true) : GoodM ss most (putI a p) (i + 1) :=
  ⟨h.N0, h.N1, h.G0, h.G1, all_snoc h.init hp, h.final, h.opens, h.closes, h.inners, by have := h.len; simp [Am.putI]; omega⟩
theorem GoodM.putF {ss : List (ByteArray × Int)} {most : Int} {a : Aut} {i : Nat} {p : Int} (h : GoodM ss most a i) (hp : stF a.N p = true) : GoodM ss most (putF a p) (i + 1) :=
  ⟨h.N0, h.N1, h.G0, h.G1, h.init, all_snoc h.final hp, h.opens, h.closes, h.inners, by have := h.len; simp [Am.putF]; omega⟩
theorem GoodM.putO {ss : List (ByteArray × Int)} {most : Int} {a : Aut} {i : Nat} {p : R4} (h : GoodM ss most a i) (hp : okO ss a p = true) : GoodM ss most (putO a p) (i + 1) :=
  ⟨h.N0, h.N1, h.G0, h.G1, h.init, h.final, all_snoc h.opens hp, h.closes, h.inners, by have := h.len; simp [Am.putO]; omega⟩
theorem GoodM.putC {ss : List (ByteArray × Int)} {most : Int} {a : Aut} {i : Nat} {p : R4} (h : GoodM ss most a i) (hp : okC ss a p = true) : GoodM ss most (putC a p) (i + 1) :=
  ⟨h.N0, h.N1, h.G0, h.G1, h.init, h.final, h.opens, all_snoc h.closes hp, h.inners, by have := h.len; simp [Am.putC]; omega⟩
theorem GoodM.putN {ss : List (ByteArray × Int)} {most : Int} {a : Aut} {i : Nat} {p : R3} (h : GoodM ss most a i) (hp : okI ss a p = true) : GoodM ss most (putN a p) (i + 1) :=
  ⟨h.N0, h.N1, h.G0, h.G1, h.init, h.final, h.opens, h.closes, all_snoc h.inners hp, by have := h.len; simp [Am.putN]; omega⟩
theorem GoodM.step {ss : List (ByteArray × Int)} {most : Int} {a : Aut} {i : Nat} (h : GoodM ss most a i) (x : Int) : GoodM ss most (stepM ss a x) (i + 1) := by
  have hy := Int.emod_nonneg x (show (1099511627776 : Int) ≠ 0 by omega)
  unfold stepM
  have g1 := Int.emod_nonneg (x % 1099511627776 / 8000) (show a.G ≠ 0 by have := h.G0; omega)
  have g2 := Int.emod_lt_of_pos (x % 1099511627776 / 8000) (show 0 < a.G by have := h.G0; omega)
  have g3 := Int.emod_nonneg (x % 1099511627776 / 8000) (show a.G + 1 ≠ 0 by have := h.G0; omega)
  have g4 := Int.emod_lt_of_pos (x % 1099511627776 / 8000) (show 0 < a.G + 1 by have := h.G0; omega)
  dsimp only
  split
  · exact h.putI (stF_mod h.N0)
  split
  · exact h.putF (stF_mod h.N0)
  split
  · split
    · rename_i hk
      exact h.putO (by simp only [okO, stF_mod h.N0, pickF_kind hk, btF, Bool.true_and, Bool.and_eq_true, decide_eq_true_eq]; omega)
    · exact h.up
  split
  · split
    · rename_i hk
      exact h.putC (by simp only [okC, stF_mod h.N0, pickF_kind hk, btF, Bool.true_and, Bool.and_eq_true, decide_eq_true_eq]; omega)
    · exact h.up
  · split
    · rename_i hk
      exact h.putN (by simp only [okI, stF_mod h.N0, pickF_kind hk, Bool.true_and])
    · exact h.up
theorem GoodM.fold (ss : List (ByteArray × Int)) {size most : Int} (h : 1 ≤ most) (ns : List Int) : ∀ i, i ≤ ns.length → GoodM ss most (foldM ss size most ns i) i := by
  intro i
  induction i with
  | zero => intro _; exact GoodM.start ss h
  | succ i ih =>
    intro hi
    rw [foldM_succ ss size most ns (show i < ns.length by omega)]
    exact (ih (by omega)).step _
theorem GoodM.last {ss : List (ByteArray × Int)} {most : Int} {a : Aut} {i : Nat} (h : GoodM ss most a i) : GoodM ss most (lastM a) (i + 1) := by
  unfold lastM
  split
  · refine h.putI ?_
    have := h.N0
    simp [stF]
    omega
  · exact h.up
theorem foldM_take (ss : List (ByteArray × Int)) (size most : Int) (ns : List Int) {i : Nat} (h : ns.length ≤ i) : foldM ss size most ns i = foldM ss size most ns ns.length := by
  unfold foldM
  rw [List.take_of_length_le h, List.take_length]
theorem GoodM.make (ss : List (ByteArray × Int)) {size most : Int} (h : 1 ≤ most) (ns : List Int) : GoodM ss most (makeM ss size most ns) 25 := by
  unfold makeM
  by_cases h24 : 24 ≤ ns.length
  · exact (GoodM.fold ss h ns 24 h24).last
  · rw [foldM_take ss size most ns (show ns.length ≤ 24 by omega)]
    have := (GoodM.fold ss (size := size) h ns ns.length (Nat.le_refl _)).last
    exact ⟨this.N0, this.N1, this.G0, this.G1, this.init, this.final, this.opens, this.closes, this.inners, by have := this.len; omega⟩
theorem GoodM.check {ss : List (ByteArray × Int)} {most : Int} {a : Aut} {i : Nat} (h : GoodM ss most a i) (hm : most ≤ 200) (hi : i ≤ 1000) : checkF ss a = true := by
  have h1 := h.len
  have h2 := h.N0
  have h3 := h.N1
  have h4 := h.G0
  have h5 := h.G1
  unfold checkF sizeF btF
  simp only [h.init, h.final, h.opens, h.closes, h.inners, Bool.and_true, Bool.and_eq_true, decide_eq_true_eq]
  omega
theorem GoodM.lens {ss : List (ByteArray × Int)} {most : Int} {a : Aut} {i : Nat} (h : GoodM ss most a i) (hi : i ≤ 1000) : AutLen a := by
  have h1 := h.len
  exact ⟨by omega, by omega, by omega, by omega, by omega⟩
end Go.Am

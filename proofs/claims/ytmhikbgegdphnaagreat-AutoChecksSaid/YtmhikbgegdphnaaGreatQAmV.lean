import Derived.Test.YtmhikbgegdphnaaGreatQAmU
namespace Go.Am
set_option linter.unusedSimpArgs false
set_option linter.unusedVariables false
open Go.RowKit
section
variable {P : Program} {W0 : World} {H : Heap} {nx n : Nat}
def OwnRow (H : Heap) (ob : Option (Nat × Nat)) (el : TypeId) (sz : Nat) (v : Value) (cs : List Value) (k : Nat) : Prop :=
  match ob with
  | none => v = .slice none 0 0 ∧ cs = [] ∧ k = 0
  | some (b, t) => v = .slice (some ⟨b, 0, some t⟩) k k ∧ cs.length = k * sz ∧ ∃ rest, H b = some (.cells (cs ++ rest) sz (some t) false (some el))
def blkOf (nx : Nat) : Option (Nat × Nat) → Nat
  | none => nx
  | some (b, _) => b
variable {ev : Operand → Option Value} {dst : Option Tmp} {type : TypeId} {pos : String} {after : Array Edge} {guard : Option (Nat × Bool)}
theorem aop_append_own {ob : Option (Nat × Nat)} {el : TypeId} {sz bytes k m : Nat} {v u : Value} {cs xs z : List Value} {x y : Operand} {st xt : TypeId} {xd : TypeDesc} (hx : ev x = some v) (hy : ev y = some u) (hv : OwnRow H ob el sz v cs k)
    (hs : source H sz u none = some (m, xs)) (h1 : xs.all (·.oneCell') = true) (hm : m ≠ 0) (hst : P.underlying st = some (.slice el)) (hxt : P.underlying xt = some xd) (hxd : notInt xd = true)
    (hsz : szOf P el = some sz) (hby : bytesOfT P el = some bytes) (hz : zeroOf P el = some z) (hzl : z.length = sz) (hle : k + m ≤ 1099511627776) (hle2 : (2 * (k + m) + 192) * bytes ≤ 281474976710656) :
    ∃ e, aop P H nx ev ⟨dst, .call ⟨.builtin .append, #[x, y], #[st, xt]⟩, type, pos, after, guard⟩ = some (.slice (some ⟨blkOf nx ob, 0, some nx⟩) (k + m) (k + m), e) ∧
      e.H nx H = H.put (blkOf nx ob) (.cells (cs ++ xs) sz (some nx) false (some el)) ∧ e.nx nx = nx + 1 := by
  cases ob with
  | none =>
    obtain ⟨rfl, rfl, rfl⟩ := hv
    refine ⟨.new (.cells xs sz (some nx) false (some el)), ?_, by simp [Eff.H, blkOf], rfl⟩
    simp only [Nat.zero_add] at hle hle2
    simp [aop, hx, hy, evAll, aBuiltin, aAppend, hst, hxt, hsz, hby, hz, hxd, hzl, hs, hm, hle, hle2, blkOf]
    rw [if_pos (by simpa using h1)]
  | some bt =>
    obtain ⟨b, t⟩ := bt
    obtain ⟨rfl, hc, rest, ho⟩ := hv
    refine ⟨.bump b (.cells (cs ++ xs) sz (some nx) false (some el)), ?_, by simp [Eff.H, blkOf], rfl⟩
    have hg : getc H ⟨b, 0, some t⟩ (k * sz) = some cs := by
      unfold getc
      simp only [ho]
      rw [if_pos ⟨trivial, by simp; omega⟩]
      simp [← hc]
    simp [aop, hx, hy, evAll, aBuiltin, aAppend, hst, hxt, hsz, hby, hz, hxd, hzl, hs, hm, ho, hle, hle2, hg, blkOf]
    rw [if_pos (by simpa using h1)]
variable {ops : Array Oper} {l : List Oper} {tm : Nat → Value} {QQ : ASt → Prop} {d : Tmp}
theorem OpsL.append {ob : Option (Nat × Nat)} {el : TypeId} {sz bytes k m : Nat} {v u : Value} {cs xs z : List Value} {x y : Operand} {st xt : TypeId} {xd : TypeDesc} (hd : d < n) (hx : ASt.ev ⟨tm, n, H, nx⟩ x = some v) (hy : ASt.ev ⟨tm, n, H, nx⟩ y = some u) (hv : OwnRow H ob el sz v cs k)
    (hs : source H sz u none = some (m, xs)) (h1 : xs.all (·.oneCell') = true) (hm : m ≠ 0) (hst : P.underlying st = some (.slice el)) (hxt : P.underlying xt = some xd) (hxd : notInt xd = true)
    (hsz : szOf P el = some sz) (hby : bytesOfT P el = some bytes) (hz : zeroOf P el = some z) (hzl : z.length = sz) (hle : k + m ≤ 1099511627776) (hle2 : (2 * (k + m) + 192) * bytes ≤ 281474976710656)
    (h : OpsL P W0 ops l ⟨tmPut tm (some d) (.slice (some ⟨blkOf nx ob, 0, some nx⟩) (k + m) (k + m)), n, H.put (blkOf nx ob) (.cells (cs ++ xs) sz (some nx) false (some el)), nx + 1⟩ QQ) :
    OpsL P W0 ops (⟨some d, .call ⟨.builtin .append, #[x, y], #[st, xt]⟩, type, pos, after, none⟩ :: l) ⟨tm, n, H, nx⟩ QQ := by
  obtain ⟨e, he, h1', h2'⟩ := aop_append_own (P := P) (nx := nx) (dst := some d) (type := type) (pos := pos) (after := after) (guard := none) hx hy hv hs h1 hm hst hxt hxd hsz hby hz hzl hle hle2
  refine OpsL.e hd he ?_
  rw [h1', h2']
  exact h
def OwnInts (H : Heap) (ob : Option (Nat × Nat)) (el : TypeId) (v : Value) (xs : List Int) : Prop := OwnRow H ob el 1 v (xs.map (.int .i64 ·)) xs.length
theorem aop_buildSlice1 {t el : TypeId} {x : Operand} {k : IntKind} {a b : Int} (hx : ev x = some (.int k a)) (hu : P.underlying t = some (.slice el)) (hs : szOf P el = some 1) (hz : zeroOf P el = some [.int k b]) :
    aop P H nx ev ⟨dst, .buildSlice t 1 #[(0, x)], type, pos, after, guard⟩ = some (.slice (some ⟨nx, 0, none⟩) 1 1, .new (.cells [.int k a] 1 none false (some el))) := by
  simp [aop, hx, evParts, aBuildSlice, hu, hs, hz, aFill, rep, Value.cells, Value.oneCell', splice]
theorem source_own {k m c : Nat} {cs : List Value} {e : Nat} {tg : Option Nat} {ro : Bool} {q : Option TypeId} {sz : Nat} (hH : H k = some (.cells cs e tg ro q)) (hm : m * sz = cs.length) (h0 : m * sz ≠ 0) :
    source H sz (.slice (some ⟨k, 0, tg⟩) m c) none = some (m, cs) := by
  simp [source, cut, h0, getc, hH, hm]
end
section
variable {P : Program} {W0 : World} {H : Heap} {nx n : Nat} {ev : Operand → Option Value} {dst : Option Tmp} {type : TypeId} {pos : String} {after : Array Edge} {guard : Option (Nat × Bool)}
theorem aop_eqlT {t u : TypeId} {k : IntKind} {x y : Operand} {a b : Int} (hx : ev x = some (.int k a)) (hy : ev y = some (.int k b)) (h : a = b) :
    aop P H nx ev ⟨dst, .binOp .eql t x y u, type, pos, after, guard⟩ = some (.bool true, .none) := by
  rw [aop_eql hx hy]; simp [h]
theorem wrap_i64 (a : Int) : IntKind.i64.wrap a = (a + 9223372036854775808) % 18446744073709551616 - 9223372036854775808 := by
  simp only [IntKind.wrap, IntKind.bits, IntKind.signed, Bool.true_and, decide_eq_true_eq, Nat.reduceSub, Int.reducePow, ge_iff_le]
  split <;> omega
end
end Go.Am

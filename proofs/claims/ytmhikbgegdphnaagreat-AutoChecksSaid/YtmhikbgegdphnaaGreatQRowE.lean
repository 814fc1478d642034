import Derived.Test.YtmhikbgegdphnaaGreatQRow2
import Derived.Test.YtmhikbgegdphnaaGreatQAmZT
namespace Go.Am
set_option linter.unusedSimpArgs false
set_option linter.unusedVariables false
open Go.RowKit
section
variable {P : Program} {W0 : World} {H : Heap} {nx n : Nat} {ev : Operand → Option Value} {dst : Option Tmp} {type : TypeId} {pos : String} {after : Array Edge} {guard : Option (Nat × Bool)}
theorem aop_append_e {b m sz bytes : Nat} {el : TypeId} {u : Value} {xs z : List Value} {q : Option TypeId} {ro : Bool} {esz : Nat} {x y : Operand} {st xt : TypeId} {xd : TypeDesc} (hx : ev x = some (.slice (some ⟨b, 0, none⟩) 0 0)) (hy : ev y = some u)
    (hH : H b = some (.cells [] esz none ro q))
    (hs : source H sz u none = some (m, xs)) (h1 : xs.all (·.oneCell') = true) (hm : m ≠ 0) (hst : P.underlying st = some (.slice el)) (hxt : P.underlying xt = some xd) (hxd : notInt xd = true)
    (hsz : szOf P el = some sz) (hby : bytesOfT P el = some bytes) (hz : zeroOf P el = some z) (hzl : z.length = sz) (hle : m ≤ 1099511627776) (hle2 : (2 * m + 192) * bytes ≤ 281474976710656) :
    aop P H nx ev ⟨dst, .call ⟨.builtin .append, #[x, y], #[st, xt]⟩, type, pos, after, guard⟩ = some (.slice (some ⟨nx, 0, some nx⟩) m m, .new (.cells xs sz (some nx) false (some el))) := by
  have hg : getc H ⟨b, 0, none⟩ 0 = some [] := by
    unfold getc
    simp only [hH]
    rw [if_pos ⟨trivial, by simp⟩]
    simp
  simp [aop, hx, hy, evAll, aBuiltin, aAppend, hst, hxt, hsz, hby, hz, hxd, hzl, hs, hm, hH, hle, hle2, hg]
  rw [if_pos (by simpa using h1)]
theorem aop_append_en {b sz bytes : Nat} {el : TypeId} {u : Value} {cs xs z : List Value} {q : Option TypeId} {tg : Option Nat} {ro : Bool} {esz : Nat} {x y : Operand} {st xt : TypeId} {xd : TypeDesc} (hx : ev x = some (.slice (some ⟨b, 0, tg⟩) 0 0)) (hy : ev y = some u)
    (hH : H b = some (.cells cs esz tg ro q))
    (hs : source H sz u none = some (0, xs)) (h1 : xs.all (·.oneCell') = true) (hst : P.underlying st = some (.slice el)) (hxt : P.underlying xt = some xd) (hxd : notInt xd = true)
    (hsz : szOf P el = some sz) (hby : bytesOfT P el = some bytes) (hz : zeroOf P el = some z) (hzl : z.length = sz) :
    aop P H nx ev ⟨dst, .call ⟨.builtin .append, #[x, y], #[st, xt]⟩, type, pos, after, guard⟩ = some (.slice (some ⟨b, 0, tg⟩) 0 0, .none) := by
  simp [aop, hx, hy, evAll, aBuiltin, aAppend, hst, hxt, hsz, hby, hz, hxd, hzl, hs, hH]
  rw [if_pos (by simpa using h1)]
end
def RowE {α : Type} (enc : α → List Value) (sz : Nat) (el : TypeId) (H : Heap) (ob : Option (Nat × Nat)) (v : Value) (l : List α) : Prop :=
  OwnOf enc sz el H ob v l ∨ (ob = none ∧ l = [] ∧ ∃ b esz ro q, v = .slice (some ⟨b, 0, none⟩) 0 0 ∧ H b = some (.cells [] esz none ro q))
theorem RowE.at {α : Type} {enc : α → List Value} {sz : Nat} {el : TypeId} {H : Heap} {ob : Option (Nat × Nat)} {v : Value} {l : List α} (hk : ∀ x, (enc x).length = sz) (h : RowE enc sz el H ob v l) : RowsAt enc sz H v l := by
  rcases h with h | ⟨_, rfl, b, esz, ro, q, rfl, _⟩
  · exact h.at hk
  · exact .inr ⟨_, 0, rfl, fun i hi => absurd hi (by simp)⟩
structure AppE {α : Type} (enc : α → List Value) (sz : Nat) (el : TypeId) (nx : Nat) (H : Heap) (ob : Option (Nat × Nat)) (l : List α) (v' : Value) (nx' : Nat) (H' : Heap) (ob' : Option (Nat × Nat)) : Prop where
  own : RowE enc sz el H' ob' v' l
  blk : ∀ b' t', ob' = some (b', t') → b' < nx' ∧ (b' = nx ∨ ∃ t, ob = some (b', t))
  le : nx ≤ nx'
  same : ∀ i, i < nx → (∀ b t, ob = some (b, t) → i ≠ b) → H' i = H i
  ok : (∀ b t, ob = some (b, t) → b < nx) → (∀ id o, H id = some o → id < nx) → ∀ id o, H' id = some o → id < nx'
attribute [local irreducible] aop OpsL Trip blockExit OpsD OpsK OpsR
section
variable {P : Program} {W0 : World} {H : Heap} {nx n : Nat} {type : TypeId} {pos : String} {after : Array Edge} {ops : Array Oper} {l : List Oper} {tm : Nat → Value} {QQ : ASt → Prop} {d : Tmp}
theorem OpsL.appendE {α : Type} {enc : α → List Value} {sz bytes : Nat} {z : List Value} {el st xt : TypeId} {ob : Option (Nat × Nat)} {v u : Value} {zs us : List α} {x y : Operand} (hk : ∀ x, (enc x).length = sz) (h1 : ∀ x, (enc x).all (·.oneCell') = true) (h0 : 0 < sz) (hd : d < n) (h : RowE enc sz el H ob v zs) (hu : RowsAt enc sz H u us) (hx : ASt.ev ⟨tm, n, H, nx⟩ x = some v) (hy : ASt.ev ⟨tm, n, H, nx⟩ y = some u) (hb : ∀ b t, ob = some (b, t) → b < nx)
    (hst : P.underlying st = some (.slice el)) (hxt : P.underlying xt = some (.slice el)) (hsz : szOf P el = some sz) (hby : bytesOfT P el = some bytes) (hz : zeroOf P el = some z) (hzl : z.length = sz) (hle : zs.length + us.length ≤ 1000000) (hbl : bytes ≤ 1000)
    (hc : ∀ v' nx' H' ob', AppE enc sz el nx H ob (zs ++ us) v' nx' H' ob' → OpsL P W0 ops l ⟨tmPut tm (some d) v', n, H', nx'⟩ QQ) :
    OpsL P W0 ops (⟨some d, .call ⟨.builtin .append, #[x, y], #[st, xt]⟩, type, pos, after, none⟩ :: l) ⟨tm, n, H, nx⟩ QQ := by
  rcases h with h | ⟨rfl, rfl, b, esz, ro, q, rfl, hH⟩
  · exact OpsL.appendO hk h1 h0 hd h hu hx hy hb hst hxt hsz hby hz hzl hle hbl fun v' nx' H' ob' hA => hc v' nx' H' ob' ⟨.inl hA.own, hA.blk, hA.le, hA.same, hA.ok⟩
  · have hsrc := rows_src hk h0 hu
    have hall : (us.flatMap enc).all (·.oneCell') = true := by
      rw [List.all_eq_true]
      intro v hv
      obtain ⟨x, _, hx⟩ := List.mem_flatMap.1 hv
      exact List.all_eq_true.1 (h1 x) v hx
    by_cases hl0 : us.length = 0
    · have : us = [] := List.eq_nil_of_length_eq_zero hl0
      subst this
      refine OpsL.p hd (aop_append_en hx hy hH hsrc hall hst hxt rfl hsz hby hz hzl) (hc _ _ _ none ⟨.inr ⟨rfl, rfl, b, esz, ro, q, rfl, hH⟩, fun b' t' e => (by cases e), Nat.le_refl _, fun _ _ _ => rfl, fun _ h => h⟩)
    · have hm1 : (2 * us.length + 192) * bytes ≤ 281474976710656 := by
        simp only [List.length_nil, Nat.zero_add] at hle
        have : (2 * us.length + 192) * bytes ≤ (2 * us.length + 192) * 1000 := Nat.mul_le_mul_left _ hbl
        omega
      refine OpsL.new hd (aop_append_e hx hy hH hsrc hall hl0 hst hxt rfl hsz hby hz hzl (by simp at hle; omega) hm1) (hc _ _ _ (some (nx, nx)) ⟨.inl ⟨rfl, by rw [List.nil_append, flat_len hk], [], by rw [Heap.put_eq, List.append_nil, List.nil_append]⟩, fun b' t' e => ?_, Nat.le_succ _, fun i hi _ => Heap.put_ne (by omega), fun _ hok => ok_new hok⟩)
      cases e
      exact ⟨Nat.lt_succ_self _, .inl rfl⟩
end
def encN (x : Int) : List Value := [.int .i64 x]
theorem encN_len (x : Int) : (encN x).length = 1 := rfl
theorem encN_one (x : Int) : (encN x).all (·.oneCell') = true := rfl
theorem ints_rowsN {H : Heap} {v : Value} {l : List Int} (h : IntsAt H v l) : RowsAt encN 1 H v l := by
  rcases h with h | ⟨a, c, rfl, hc⟩
  · exact .inl h
  · exact .inr ⟨a, c, rfl, fun i hi => by have := hc i hi; simpa [cellAt, encN] using this⟩
theorem rows_intsN {H : Heap} {v : Value} {l : List Int} (h : RowsAt encN 1 H v l) : IntsAt H v l := by
  rcases h with h | ⟨a, c, rfl, hc⟩
  · exact .inl h
  · exact .inr ⟨a, c, rfl, fun i hi => by have := hc i hi; simpa [cellAt, encN] using this⟩
def AppI (H : Heap) (ob : Option (Nat × Nat)) (el : TypeId) (v : Value) (xs : List Int) : Prop :=
  OwnInts H ob el v xs ∨ ∃ b t, ob = some (b, t) ∧ v = .slice (some ⟨b, 0, none⟩) xs.length xs.length ∧ xs ≠ [] ∧ H b = some (.cells (xs.map (.int .i64 ·)) 1 none false (some el))
theorem AppI.same {H H' : Heap} {ob : Option (Nat × Nat)} {el : TypeId} {v : Value} {xs : List Int} (hs : ∀ b t, ob = some (b, t) → H' b = H b) (h : AppI H ob el v xs) : AppI H' ob el v xs := by
  rcases h with h | ⟨b, t, rfl, h1, h2, h3⟩
  · left
    cases ob with
    | none => exact h
    | some bt =>
      obtain ⟨b, t⟩ := bt
      obtain ⟨h1, h2, rest, h3⟩ := h
      exact ⟨h1, h2, rest, by rw [hs b t rfl]; exact h3⟩
  · exact .inr ⟨b, t, rfl, h1, h2, by rw [hs b t rfl]; exact h3⟩
theorem AppI.at {H : Heap} {ob : Option (Nat × Nat)} {el : TypeId} {v : Value} {xs : List Int} (h : AppI H ob el v xs) : IntsAt H v xs := by
  rcases h with h | ⟨b, t, rfl, rfl, h2, h3⟩
  · exact OwnInts.at h
  · exact NumsAt.own (rest := []) (by rw [List.append_nil]; exact h3)
section
variable {P : Program} {W0 : World} {H : Heap} {nx n : Nat} {ev : Operand → Option Value} {dst : Option Tmp} {type : TypeId} {pos : String} {after : Array Edge} {guard : Option (Nat × Bool)}
theorem aop_append_full {b k m sz bytes : Nat} {el : TypeId} {u : Value} {cs xs z : List Value} {q : Option TypeId} {ro : Bool} {esz : Nat} {x y : Operand} {st xt : TypeId} {xd : TypeDesc} (hx : ev x = some (.slice (some ⟨b, 0, none⟩) k k)) (hy : ev y = some u)
    (hH : H b = some (.cells cs esz none ro q)) (hc : cs.length = k * sz)
    (hs : source H sz u none = some (m, xs)) (h1 : xs.all (·.oneCell') = true) (hm : m ≠ 0) (hst : P.underlying st = some (.slice el)) (hxt : P.underlying xt = some xd) (hxd : notInt xd = true)
    (hsz : szOf P el = some sz) (hby : bytesOfT P el = some bytes) (hz : zeroOf P el = some z) (hzl : z.length = sz) (hle : k + m ≤ 1099511627776) (hle2 : (2 * (k + m) + 192) * bytes ≤ 281474976710656) :
    aop P H nx ev ⟨dst, .call ⟨.builtin .append, #[x, y], #[st, xt]⟩, type, pos, after, guard⟩ = some (.slice (some ⟨nx, 0, some nx⟩) (k + m) (k + m), .new (.cells (cs ++ xs) sz (some nx) false (some el))) := by
  have hg : getc H ⟨b, 0, none⟩ (k * sz) = some cs := by
    unfold getc
    simp only [hH]
    rw [if_pos ⟨trivial, by omega⟩]
    simp [← hc]
  simp [aop, hx, hy, evAll, aBuiltin, aAppend, hst, hxt, hsz, hby, hz, hxd, hzl, hs, hm, hH, hle, hle2, hg]
  rw [if_pos (by simpa using h1), if_neg (by omega : ¬ (k + m ≤ k))]
end
section
variable {P : Program} {W0 : World} {H : Heap} {nx n : Nat} {ops : Array Oper} {l : List Oper} {tm : Nat → Value} {QQ : ASt → Prop}
theorem OpsL.appendA {d1 d2 dy : Tmp} {x : Operand} {st el ty1 ty2 : TypeId} {p1 p2 : String} {af1 af2 : Array Edge} {a : Int} {v : Value} {ob : Option (Nat × Nat)} {xs : List Int}
    (hd1 : d1 < n) (hd2 : d2 < n) (hx : ASt.ev ⟨tm, n, H, nx⟩ x = some (.int .i64 a)) (hne : dy ≠ d1) (hy : tm dy = v) (hv : AppI H ob el v xs) (hob : ∀ b t, ob = some (b, t) → b < nx)
    (hst : P.underlying st = some (.slice el)) (hsz : szOf P el = some 1) (hby : bytesOfT P el = some 8) (hz : zeroOf P el = some [.int .i64 0]) (hle : xs.length ≤ 1000000000)
    (h : ∀ v' ob' H', OwnInts H' ob' el v' (xs ++ [a]) → (∃ b, ob' = some (b, nx + 1) ∧ (b = nx + 1 ∨ ∃ t, ob = some (b, t))) → (∀ k, k < nx → (∀ b t, ob = some (b, t) → k ≠ b) → H' k = H k) →
      OpsL P W0 ops l ⟨tmPut (tmPut tm (some d1) (.slice (some ⟨nx, 0, none⟩) 1 1)) (some d2) v', n, H', nx + 1 + 1⟩ QQ) :
    OpsL P W0 ops (⟨some d1, .buildSlice st 1 #[(0, x)], ty1, p1, af1, none⟩ :: ⟨some d2, .call ⟨.builtin .append, #[.tmp dy, .tmp d1], #[st, st]⟩, ty2, p2, af2, none⟩ :: l) ⟨tm, n, H, nx⟩ QQ := by
  rcases hv with hv | ⟨b, t, rfl, rfl, hne0, hH⟩
  · exact OpsL.appendI hd1 hd2 hx hne hy hv hob hst hsz hby hz hle h
  · have hb := hob b t rfl
    refine OpsL.new hd1 (aop_buildSlice1 hx hst hsz hz) ?_
    refine OpsL.new hd2 (aop_append_full (b := b) (sz := 1) (bytes := 8) (k := xs.length) (m := 1) (cs := xs.map (.int .i64 ·)) (xs := [.int .i64 a]) (u := .slice (some ⟨nx, 0, none⟩) 1 1) (xd := .slice el) (by simp [ASt.ev, tmPut, hne, hy]) (by simp [ASt.ev, tmPut])
      (by rw [Heap.put_ne (show b ≠ nx by omega)]; exact hH) (by simp) (source_own (by exact Heap.put_eq) rfl (by omega)) rfl (by omega) hst hst rfl hsz hby hz rfl (by omega) (by omega)) ?_
    refine h _ (some (nx + 1, nx + 1)) _ ⟨by simp, by simp, [], ?_⟩ ⟨_, rfl, .inl rfl⟩ ?_
    · rw [Heap.put_eq]; simp
    · intro k hk _
      rw [Heap.put_ne (by omega), Heap.put_ne (by omega)]
end
end Go.Am

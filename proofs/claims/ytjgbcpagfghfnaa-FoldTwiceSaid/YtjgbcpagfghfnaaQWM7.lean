import Derived.Test.YtjgbcpagfghfnaaQWM6
import Derived.ChangeKeysEq
set_option linter.unusedVariables false
set_option linter.unusedSimpArgs false
set_option linter.unnecessarySimpa false
namespace Go.Am
open Go.RowKit
section
variable {P : Program} {W0 : World} {C : Corr} {nx : Nat} {H : Heap} {w : World}
def intArith (op : BinOp) (k : IntKind) (x y : Int) : Option Value :=
  match op with
  | .add => some (.int k (k.wrap (x + y)))
  | .sub => some (.int k (k.wrap (x - y)))
  | .mul => some (.int k (k.wrap (x * y)))
  | .quo => if y = 0 then none else some (.int k (k.wrap (x.tdiv y)))
  | .rem => if y = 0 then none else some (.int k (x.tmod y))
  | .and => some (.int k (k.wrap ((BitVec.ofInt k.bits x &&& BitVec.ofInt k.bits y).toNat)))
  | .or => some (.int k (k.wrap ((BitVec.ofInt k.bits x ||| BitVec.ofInt k.bits y).toNat)))
  | .xor => some (.int k (k.wrap ((BitVec.ofInt k.bits x ^^^ BitVec.ofInt k.bits y).toNat)))
  | .andNot => some (.int k (k.wrap ((BitVec.ofInt k.bits x &&& ~~~ BitVec.ofInt k.bits y).toNat)))
  | .shl | .shr => none
  | .eql => some (.bool (x == y))
  | .neq => some (.bool (x != y))
  | .lss => some (.bool (decide (x < y)))
  | .leq => some (.bool (decide (x ≤ y)))
  | .gtr => some (.bool (decide (x > y)))
  | .geq => some (.bool (decide (x ≥ y)))
def aShift (op : BinOp) (k : IntKind) (x y : Int) : Option Value :=
  if y < 0 then none else
  match op with
  | .shl => some (.int k (k.wrap (x * 2 ^ (min y.toNat k.bits))))
  | .shr => some (.int k (x.fdiv (2 ^ (min y.toNat k.bits))))
  | _ => none
def sEq (s r : ByteArray) : Bool := s.data.toList == r.data.toList
def sLt (s r : ByteArray) : Bool := Op.bytesLess s.data.toList r.data.toList
def aString (op : BinOp) (s r : ByteArray) : Option Value :=
  match op with
  | .add => if s.data.toList.length + r.data.toList.length ≤ 1099511627776 then some (.string ⟨(s.data.toList ++ r.data.toList).toArray⟩) else none
  | .eql => some (.bool (sEq s r))
  | .neq => some (.bool (!sEq s r))
  | .lss => some (.bool (sLt s r))
  | .leq => some (.bool (sLt s r || sEq s r))
  | .gtr => some (.bool (!(sLt s r || sEq s r)))
  | .geq => some (.bool (!sLt s r))
  | _ => none
def eqFields (P : Program) (r : TypeId → Value → Value → Option Bool) (xs ys : List Value) : List Field → Option Bool
  | [] => some true
  | f :: fs =>
    if f.name = "_" then eqFields P r xs ys fs
    else
      match getPart P f.type xs f.offset, getPart P f.type ys f.offset with
      | some a, some b =>
        match r f.type a b with
        | some true => eqFields P r xs ys fs
        | some false => some false
        | none => none
      | _, _ => none
def eqItems (P : Program) (r : TypeId → Value → Value → Option Bool) (elem : TypeId) (n : Nat) (xs ys : List Value) : List Nat → Option Bool
  | [] => some true
  | i :: is =>
    match getPart P elem xs (i * n), getPart P elem ys (i * n) with
    | some a, some b =>
      match r elem a b with
      | some true => eqItems P r elem n xs ys is
      | some false => some false
      | none => none
    | _, _ => none
def apartO (a : Addr) (o : AObj) (b : Addr) (o2 : AObj) : Bool :=
  match o, o2 with
  | .cells _ e t false _, .cells _ e2 t2 false _ => decide (t = a.spot) && decide (t2 = b.spot) && !Nat.beq e 1 && !Nat.beq e2 1
  | _, _ => false
theorem apartO_spec {a b : Addr} {o o2 : AObj} (h : apartO a o b o2 = true) : ∃ c e q c2 e2 q2, o = .cells c e a.spot false q ∧ o2 = .cells c2 e2 b.spot false q2 ∧ e ≠ 1 ∧ e2 ≠ 1 := by
  unfold apartO at h
  split at h
  · rename_i c e t q c2 e2 t2 q2
    simp only [Bool.and_eq_true, decide_eq_true_eq, Bool.not_eq_true'] at h
    obtain ⟨⟨⟨rfl, rfl⟩, h1⟩, h2⟩ := h
    exact ⟨c, e, q, c2, e2, q2, rfl, rfl, fun x => (by subst x; cases h1), fun x => (by subst x; cases h2)⟩
  · cases h
theorem run_sameAddr_apart {a b : Addr} {ca cb : Array Value} {ta tb : TypeId} (hbl : a.block ≠ b.block) (ha : w.heap[a.block]? = some (.cells ca ta (0, 0))) (hb : w.heap[b.block]? = some (.cells cb tb (0, 0))) :
    (sameAddr a b).run P w = .ok false w := by
  simp [sameAddr, hbl, World.frozen?, ha, hb, noView, viewAt, World.shape?, mayBeOne, stringish]
def aEq (P : Program) (H : Heap) : Nat → TypeId → Value → Value → Option Bool
  | 0, _, _, _ => none
  | d + 1, t, x, y =>
    match P.underlying t with
    | none => none
    | some u =>
      match u, x, y with
      | .bool, .bool a, .bool b => some (a == b)
      | .int _, .int k a, .int k' b => if k = k' then some (a == b) else none
      | .string, .string a, .string b => some (sEq a b)
      | .pointer _, .pointer none, .pointer b => some b.isNone
      | .pointer _, .pointer (some _), .pointer none => some false
      | .pointer e, .pointer (some a), .pointer (some b) =>
        match szOf P e, H a.block with
        | some n, some o =>
          if n ≠ 0 ∧ a.block = b.block ∧ o.tag = a.spot ∧ b.spot = a.spot then some (a.off == b.off)
          else if n ≠ 0 ∧ a.block ≠ b.block then (match H b.block with | some o2 => if apartO a o b o2 then some false else none | none => none)
          else none
        | _, _ => none
      | .interface _, .nilIface, .nilIface => some true
      | .interface _, .nilIface, .iface _ _ => some false
      | .interface _, .iface _ _, .nilIface => some false
      | .slice _, .slice none _ _, .slice b _ _ => some b.isNone
      | .slice _, .slice (some _) _ _, .slice none _ _ => some false
      | .map _ _, .map none, .map b => some b.isNone
      | .map _ _, .map (some _), .map none => some false
      | .func _ _ _, .nilFunc, .nilFunc => some true
      | .func _ _ _, .nilFunc, .func _ _ _ => some false
      | .func _ _ _, .func _ _ _, .nilFunc => some false
      | .struct fields, .agg xs, .agg ys => if P.stoodInHeld t then none else eqFields P (aEq P H d) xs.toList ys.toList fields.toList
      | .array len elem, .agg xs, .agg ys =>
        match szOf P elem with
        | some n => eqItems P (aEq P H d) elem n xs.toList ys.toList (List.range len)
        | none => none
      | _, _, _ => none
theorem sEq_toList (s r : ByteArray) : (s == r) = sEq s r := by
  rw [beq_toListBytes, ByteArray.toList_eq, ByteArray.toList_eq]; rfl
theorem agg_VRs {xs xs' : Array Value} (ha : xs.size = xs'.size) (h1 : ∀ (i : Nat) (h : i < xs.size) (h' : i < xs'.size), VR nx H C xs[i] xs'[i]) : VRs nx H C xs.toList xs'.toList :=
  ⟨by simpa using ha, fun i p q => h1 i (by simpa using p) (by simpa using q)⟩
theorem eqFields_sound {r : TypeId → Value → Value → Option Bool} {d : Nat} (hr : ∀ t x y x' y' b, r t x y = some b → VR nx H C x x' → VR nx H C y y' → (Op.equalIn d t x' y').run P w = .ok b w)
    {xs ys : List Value} {xs' ys' : Array Value} (hx : VRs nx H C xs xs'.toList) (hy : VRs nx H C ys ys'.toList) : ∀ (fs : List Field) (b : Bool), eqFields P r xs ys fs = some b → (Op.eqFields d xs' ys' fs).run P w = .ok b w := by
  intro fs
  induction fs with
  | nil => intro b h; simp only [eqFields, Option.some.injEq] at h; simp [Op.eqFields, h]
  | cons f fs ih =>
    intro b h
    simp only [eqFields] at h
    split at h
    · rename_i hn
      simp only [Op.eqFields, hn, ne_eq, not_true_eq_false, if_false]
      exact ih b h
    · rename_i hn
      split at h
      · rename_i a c ha hc
        obtain ⟨a', ea, va⟩ := getPart_sound ha hx
        obtain ⟨c', ec, vc⟩ := getPart_sound hc hy
        simp only [Array.toArray_toList] at ea ec
        simp only [Op.eqFields, hn, ne_eq, not_false_eq_true, if_true, Sem.run_bind, ea, ec, Result.andThen_ok]
        split at h
        · rename_i hq
          rw [hr _ _ _ _ _ _ hq va vc]
          simpa using ih b h
        · rename_i hq
          rw [hr _ _ _ _ _ _ hq va vc]
          simp only [Option.some.injEq] at h
          simp [← h]
        · cases h
      · cases h
theorem eqItems_sound {r : TypeId → Value → Value → Option Bool} {d : Nat} (hr : ∀ t x y x' y' b, r t x y = some b → VR nx H C x x' → VR nx H C y y' → (Op.equalIn d t x' y').run P w = .ok b w)
    {xs ys : List Value} {xs' ys' : Array Value} (hx : VRs nx H C xs xs'.toList) (hy : VRs nx H C ys ys'.toList) (elem : TypeId) (n : Nat) : ∀ (is : List Nat) (b : Bool), eqItems P r elem n xs ys is = some b → (Op.eqItems d elem n xs' ys' is).run P w = .ok b w := by
  intro is
  induction is with
  | nil => intro b h; simp only [eqItems, Option.some.injEq] at h; simp [Op.eqItems, h]
  | cons i is ih =>
    intro b h
    simp only [eqItems] at h
    split at h
    · rename_i a c ha hc
      obtain ⟨a', ea, va⟩ := getPart_sound ha hx
      obtain ⟨c', ec, vc⟩ := getPart_sound hc hy
      simp only [Array.toArray_toList] at ea ec
      simp only [Op.eqItems, Sem.run_bind, ea, ec, Result.andThen_ok]
      split at h
      · rename_i hq
        rw [hr _ _ _ _ _ _ hq va vc]
        simpa using ih b h
      · rename_i hq
        rw [hr _ _ _ _ _ _ hq va vc]
        simp only [Option.some.injEq] at h
        simp [← h]
      · cases h
    · cases h
theorem aEq_sound (hR : Rel W0 C nx H w) : ∀ (d d' : Nat) (t : TypeId) (x y x' y' : Value) (b : Bool), d ≤ d' → aEq P H d t x y = some b → VR nx H C x x' → VR nx H C y y' → (Op.equalIn d' t x' y').run P w = .ok b w := by
  intro d
  induction d with
  | zero => intro d' t x y x' y' b _ h; simp [aEq] at h
  | succ d ih =>
    intro d' t x y x' y' b hd h hx hy
    obtain ⟨d', rfl⟩ : ∃ k, d' = k + 1 := ⟨d' - 1, by omega⟩
    have ih' := fun t x y x' y' b => ih d' t x y x' y' b (by omega)
    simp only [aEq] at h
    split at h
    · cases h
    · rename_i u hu
      split at h
      · cases hx; cases hy; simp only [Option.some.injEq] at h; simp [Op.equalIn, run_underlying hu, h]
      · split at h
        · rename_i hk
          subst hk
          cases hx; cases hy; simp only [Option.some.injEq] at h; simp [Op.equalIn, run_underlying hu, h]
        · cases h
      · cases hx; cases hy; simp only [Option.some.injEq] at h; simp [Op.equalIn, run_underlying hu, h, sEq_toList]
      · cases hx; cases hy <;> (simp only [Option.some.injEq] at h; simp [Op.equalIn, run_underlying hu, ← h])
      · cases hx; cases hy; simp only [Option.some.injEq] at h; simp [Op.equalIn, run_underlying hu, ← h]
      · rename_i e a c
        split at h
        · rename_i n o hn ho
          split at h
          · rename_i hc
            obtain ⟨h1, h2, h3, h4⟩ := hc
            simp only [Option.some.injEq] at h
            cases hx with
            | ptr _ a' k1 k2 =>
            cases hy with
            | ptr _ c' m1 m2 =>
            obtain rfl := k2 ⟨o, ho, h3⟩
            obtain rfl := m2 ⟨o, h2 ▸ ho, h3.trans h4.symm⟩
            have hblk : ((C.at a).block == (C.at c).block) = true := by simp [Corr.at, h2]
            have hres : (C.at a == C.at c) = b := by
              rw [← h]
              simp only [Corr.at, ← h2]
              by_cases e1 : a.off = c.off
              · simp [e1]
              · have : (a.off == c.off) = false := by simpa using e1
                rw [this, beq_eq_false_iff_ne]
                intro e2
                simp only [Addr.mk.injEq] at e2
                omega
            simp only [Op.equalIn, Sem.run_bind, run_underlying hu, Result.andThen_ok, run_sizeOf' hn, h1, ne_eq, not_false_eq_true, if_true, sameAddr, hblk, Sem.run_pure, hres]
          · split at h
            · rename_i hc
              obtain ⟨h1, hne⟩ := hc
              split at h
              · rename_i o2 ho2
                split at h
                · rename_i hap
                  cases h
                  obtain ⟨c1, e1, q1, c2, e2, q2, rfl, rfl, x1, x2⟩ := apartO_spec hap
                  cases hx with
                  | ptr _ a' k1 k2 =>
                  cases hy with
                  | ptr _ c' m1 m2 =>
                  obtain rfl := k2 ⟨_, ho, rfl⟩
                  obtain rfl := m2 ⟨_, ho2, rfl⟩
                  obtain ⟨Ca, ea, fa, g1, _, _, _, _, _, _, g8⟩ := hR.obj _ _ ho
                  obtain ⟨Cb, eb, fb, j1, _, _, _, _, _, _, j8⟩ := hR.obj _ _ ho2
                  obtain rfl := (g8 rfl).resolve_left x1
                  obtain rfl := (j8 rfl).resolve_left x2
                  have hsep := hR.sep _ _ _ _ ho ho2 hne rfl
                  have := run_sameAddr_apart (P := P) (a := C.at a) (b := C.at c) hsep g1 j1
                  simp only [Op.equalIn, Sem.run_bind, run_underlying hu, Result.andThen_ok, run_sizeOf' hn, h1, ne_eq, not_false_eq_true, if_true, this]
                · cases h
              · cases h
            · cases h
        · cases h
      · cases hx; cases hy; simp only [Option.some.injEq] at h; simp [Op.equalIn, run_underlying hu, h]
      · cases hx; cases hy; simp only [Option.some.injEq] at h; simp [Op.equalIn, run_underlying hu, h]
      · cases hx; cases hy; simp only [Option.some.injEq] at h; simp [Op.equalIn, run_underlying hu, h]
      · cases hx; cases hy <;> (simp only [Option.some.injEq] at h; simp [Op.equalIn, run_underlying hu, ← h])
      · cases hx; cases hy; simp only [Option.some.injEq] at h; simp [Op.equalIn, run_underlying hu, ← h]
      · cases hx; cases hy <;> (simp only [Option.some.injEq] at h; simp [Op.equalIn, run_underlying hu, ← h])
      · cases hx; cases hy; simp only [Option.some.injEq] at h; simp [Op.equalIn, run_underlying hu, ← h]
      · cases hx; cases hy; simp only [Option.some.injEq] at h; simp [Op.equalIn, run_underlying hu, h]
      · cases hx; cases hy; simp only [Option.some.injEq] at h; simp [Op.equalIn, run_underlying hu, h]
      · cases hx; cases hy; simp only [Option.some.injEq] at h; simp [Op.equalIn, run_underlying hu, h]
      · split at h
        · cases h
        · rename_i fields xs ys hst
          cases hx with
          | agg _ xs' hxa hx1 =>
          cases hy with
          | agg _ ys' hya hy1 =>
          have hf : P.fieldsOf t = fields := by simp [Program.fieldsOf, hu]
          rw [run_equalIn_struct w d' t xs' ys' (by rw [hf]; exact hu) (by simpa using hst), hf]
          exact eqFields_sound ih' (agg_VRs hxa hx1) (agg_VRs hya hy1) _ b h
      · split at h
        · rename_i len elem xs ys _ n hn
          cases hx with
          | agg _ xs' hxa hx1 =>
          cases hy with
          | agg _ ys' hya hy1 =>
          unfold szOf at hn
          cases hi : P.info? elem with
          | none => simp [hi] at hn
          | some i =>
            rw [run_equalIn_array w d' xs' ys' hu hi]
            have hcs : P.cellsOf elem = n := by simp [Program.cellsOf, hi] at hn ⊢; exact hn
            rw [hcs]
            exact eqItems_sound ih' (agg_VRs hxa hx1) (agg_VRs hya hy1) elem n _ b h
        · cases h
      · cases h
end
end Go.Am

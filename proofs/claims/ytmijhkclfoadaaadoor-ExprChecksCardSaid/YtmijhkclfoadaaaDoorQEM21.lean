import Derived.Test.YtmijhkclfoadaaaDoorChecked
import Derived.Test.YtmijhkclfoadaaaDoorQEM20
import Derived.Test.YtmijhkclfoadaaaDoorQEM19
namespace Go.Am
set_option linter.unusedSimpArgs false
set_option linter.unusedVariables false
open Go.RowKit
inductive Ex where
  | node (k s e : Int) (l : List Ex) : Ex
namespace Ex
set_option linter.unusedSimpArgs false
set_option linter.unusedVariables false
def k : Ex → Int | .node k _ _ _ => k
def s : Ex → Int | .node _ s _ _ => s
def e : Ex → Int | .node _ _ e _ => e
def l : Ex → List Ex | .node _ _ _ l => l
theorem ind {P : Ex → Prop} (h : ∀ k s e l, (∀ y ∈ l, P y) → P (.node k s e l)) : ∀ x, P x
  | .node k s e l => h k s e l fun y _ => ind h y
termination_by x => SizeOf.sizeOf x
decreasing_by
  rename_i hy
  have := List.sizeOf_lt_of_mem hy
  simp only [Ex.node.sizeOf_spec]
  omega
end Ex
mutual
def deepX : Ex → Nat
  | .node _ _ _ l => deepXL l 0 + 1
def deepXL : List Ex → Nat → Nat
  | [], n => n
  | x :: l, n => deepXL l (max n (deepX x))
end
mutual
def sizeX : Ex → Nat
  | .node _ _ _ l => sizeXL l 1
def sizeXL : List Ex → Nat → Nat
  | [], n => n
  | x :: l, n => sizeXL l (n + sizeX x)
end
def shapeX (k s e : Int) (n : Nat) : Bool :=
  if k = 1 ∨ k = 2 then decide (n = 0 ∧ s = 0 ∧ e = 0) else if k = 3 then decide (n = 0 ∧ e = 0) else if k = 4 then decide (n = 1) else if k = 5 ∨ k = 6 then decide (1 < n ∧ s = 0 ∧ e = 0) else if k = 7 then decide (n = 1 ∧ s = 0 ∧ e = 0) else false
mutual
def formX : Ex → Bool
  | .node k s e l => formXL l (shapeX k s e l.length)
def formXL : List Ex → Bool → Bool
  | [], b => b
  | x :: l, b => formXL l (b && formX x)
end
def isX (ss : List (ByteArray × Int)) (s k : Int) : Bool := decide (0 ≤ s ∧ s < ss.length) && (decide (k = 0) || decide ((ss[s.toNat]?.map (·.2)).getD 0 = k))
def nameX (ss : List (ByteArray × Int)) (k s e : Int) : Bool := !(decide (k = 3) && !isX ss s 0) && !(decide (k = 4) && (!isX ss s 1 || !isX ss e 2))
mutual
def namedX (ss : List (ByteArray × Int)) : Ex → Bool
  | .node k s e l => namedXL ss l (nameX ss k s e)
def namedXL (ss : List (ByteArray × Int)) : List Ex → Bool → Bool
  | [], b => b
  | x :: l, b => namedXL ss l (b && namedX ss x)
end
def kindX (ss : List (ByteArray × Int)) (s : Int) : Int := (ss[s.toNat]?.map (·.2)).getD 0
mutual
def looseX (ss : List (ByteArray × Int)) : Ex → Bool → Bool
  | .node k s _ l, b => looseXL ss l (decide (k = 3) && b && !decide (kindX ss s = 3)) (b || decide (k = 4))
def looseXL (ss : List (ByteArray × Int)) : List Ex → Bool → Bool → Bool
  | [], r, _ => r
  | x :: l, r, b => looseXL ss l (r || looseX ss x b) b
end
def checkX (ss : List (ByteArray × Int)) (x : Ex) : Int :=
  if 20 < deepX x then 3 else if 200 < sizeX x then 2 else if formX x = false then 7 else if namedX ss x = false then 6 else if looseX ss x false = true then 8 else 0
theorem deepXL_app : ∀ (a b : List Ex) (n : Nat), deepXL (a ++ b) n = deepXL b (deepXL a n)
  | [], _, _ => by simp [deepXL]
  | x :: a, b, n => by simp only [List.cons_append, deepXL]; exact deepXL_app a b _
theorem sizeXL_app : ∀ (a b : List Ex) (n : Nat), sizeXL (a ++ b) n = sizeXL b (sizeXL a n)
  | [], _, _ => by simp [sizeXL]
  | x :: a, b, n => by simp only [List.cons_append, sizeXL]; exact sizeXL_app a b _
theorem formXL_app : ∀ (a b : List Ex) (n : Bool), formXL (a ++ b) n = formXL b (formXL a n)
  | [], _, _ => by simp [formXL]
  | x :: a, b, n => by simp only [List.cons_append, formXL]; exact formXL_app a b _
theorem namedXL_app (ss : List (ByteArray × Int)) : ∀ (a b : List Ex) (n : Bool), namedXL ss (a ++ b) n = namedXL ss b (namedXL ss a n)
  | [], _, _ => by simp [namedXL]
  | x :: a, b, n => by simp only [List.cons_append, namedXL]; exact namedXL_app ss a b _
theorem looseXL_app (ss : List (ByteArray × Int)) : ∀ (a b : List Ex) (r n : Bool), looseXL ss (a ++ b) r n = looseXL ss b (looseXL ss a r n) n
  | [], _, _, _ => by simp [looseXL]
  | x :: a, b, r, n => by simp only [List.cons_append, looseXL]; exact looseXL_app ss a b _ _
theorem take_snoc {l : List Ex} {i : Nat} (h : i < l.length) : l.take (i + 1) = l.take i ++ [l[i]] := List.take_succ_eq_append_getElem h
theorem deepXL_take {l : List Ex} {i : Nat} (h : i < l.length) (n : Nat) : deepXL (l.take (i + 1)) n = max (deepXL (l.take i) n) (deepX l[i]) := by
  rw [take_snoc h, deepXL_app]; simp [deepXL]
theorem sizeXL_take {l : List Ex} {i : Nat} (h : i < l.length) (n : Nat) : sizeXL (l.take (i + 1)) n = sizeXL (l.take i) n + sizeX l[i] := by
  rw [take_snoc h, sizeXL_app]; simp [sizeXL]
theorem formXL_take {l : List Ex} {i : Nat} (h : i < l.length) (n : Bool) : formXL (l.take (i + 1)) n = (formXL (l.take i) n && formX l[i]) := by
  rw [take_snoc h, formXL_app]; simp [formXL]
theorem namedXL_take (ss : List (ByteArray × Int)) {l : List Ex} {i : Nat} (h : i < l.length) (n : Bool) : namedXL ss (l.take (i + 1)) n = (namedXL ss (l.take i) n && namedX ss l[i]) := by
  rw [take_snoc h, namedXL_app]; simp [namedXL]
theorem looseXL_take (ss : List (ByteArray × Int)) {l : List Ex} {i : Nat} (h : i < l.length) (r n : Bool) : looseXL ss (l.take (i + 1)) r n = (looseXL ss (l.take i) r n || looseX ss l[i] n) := by
  rw [take_snoc h, looseXL_app]; simp [looseXL]
theorem formXL_false : ∀ (l : List Ex), formXL l false = false
  | [] => by simp [formXL]
  | x :: l => by simp only [formXL, Bool.false_and]; exact formXL_false l
theorem namedXL_false (ss : List (ByteArray × Int)) : ∀ (l : List Ex), namedXL ss l false = false
  | [] => by simp [namedXL]
  | x :: l => by simp only [namedXL, Bool.false_and]; exact namedXL_false ss l
theorem looseXL_true (ss : List (ByteArray × Int)) : ∀ (l : List Ex) (n : Bool), looseXL ss l true n = true
  | [], _ => by simp [looseXL]
  | x :: l, n => by simp only [looseXL, Bool.true_or]; exact looseXL_true ss l n
theorem formXL_drop {l : List Ex} {i : Nat} {n : Bool} (h : formXL (l.take i) n = false) : formXL l n = false := by
  conv => lhs; rw [← List.take_append_drop i l]
  rw [formXL_app, h, formXL_false]
theorem namedXL_drop {ss : List (ByteArray × Int)} {l : List Ex} {i : Nat} {n : Bool} (h : namedXL ss (l.take i) n = false) : namedXL ss l n = false := by
  conv => lhs; rw [← List.take_append_drop i l]
  rw [namedXL_app, h, namedXL_false]
theorem looseXL_drop {ss : List (ByteArray × Int)} {l : List Ex} {i : Nat} {r n : Bool} (h : looseXL ss (l.take i) r n = true) : looseXL ss l r n = true := by
  conv => lhs; rw [← List.take_append_drop i l]
  rw [looseXL_app, h, looseXL_true]
theorem sizeXL_le : ∀ (l : List Ex) (n : Nat), n ≤ sizeXL l n
  | [], n => by simp [sizeXL]
  | x :: l, n => by simp only [sizeXL]; exact Nat.le_trans (Nat.le_add_right _ _) (sizeXL_le l _)
theorem sizeXL_mem : ∀ (l : List Ex) (n : Nat) {x : Ex}, x ∈ l → n + sizeX x ≤ sizeXL l n
  | [], n, x, h => by cases h
  | y :: l, n, x, h => by
    simp only [sizeXL]
    rcases List.mem_cons.1 h with rfl | h
    · exact sizeXL_le l _
    · have := sizeXL_mem l (n + sizeX y) h
      omega
theorem sizeXL_takeLe {l : List Ex} {i n : Nat} : sizeXL (l.take i) n ≤ sizeXL l n := by
  conv => rhs; rw [← List.take_append_drop i l]
  rw [sizeXL_app]
  exact sizeXL_le _ _
theorem sizeX_pos : ∀ x : Ex, 1 ≤ sizeX x
  | .node _ _ _ l => by simp only [sizeX]; exact sizeXL_le l 1
theorem size_len : ∀ (l : List Ex) (n : Nat), n + l.length ≤ sizeXL l n
  | [], n => by simp [sizeXL]
  | x :: l, n => by
    simp only [sizeXL, List.length_cons]
    have := size_len l (n + sizeX x)
    have := sizeX_pos x
    omega
theorem deepXL_le : ∀ (l : List Ex) (n m : Nat), n ≤ m → (∀ x ∈ l, deepX x ≤ m) → deepXL l n ≤ m
  | [], n, m, h, _ => by simpa [deepXL] using h
  | x :: l, n, m, h, hl => by
    simp only [deepXL]
    exact deepXL_le l _ m (Nat.max_le.2 ⟨h, hl x (List.mem_cons_self ..)⟩) fun y hy => hl y (List.mem_cons_of_mem _ hy)
theorem deep_size : ∀ x : Ex, deepX x ≤ sizeX x := Ex.ind fun k s e l ih => by
  simp only [deepX, sizeX]
  have : deepXL l 0 ≤ sizeXL l 1 - 1 := deepXL_le l 0 _ (Nat.zero_le _) fun x hx => by
    have := sizeXL_mem l 1 hx
    have := ih x hx
    omega
  have := sizeXL_le l 1
  omega
inductive ExC (H : Heap) : List Value → Ex → List Nat → Prop
  | leaf (k s e : Int) (c : Nat) : ExC H [.int .i64 k, .int .i64 s, .int .i64 e, .slice none 0 c] (.node k s e []) []
  | node (k s e : Int) (l : List Ex) (p : Addr) (c : Nat) (cs : Nat → List Value) (Bs : Nat → List Nat) (hl : l ≠ []) (hob : ∃ c0 q, H p.block = some (.cells c0 4 p.spot false q))
      (h : ∀ i, i < l.length → getc H ⟨p.block, p.off + i * 4, p.spot⟩ 4 = some (cs i)) (h2 : ∀ i (hi : i < l.length), ExC H (cs i) l[i] (Bs i)) :
      ExC H [.int .i64 k, .int .i64 s, .int .i64 e, .slice (some p) l.length c] (.node k s e l) (p.block :: (List.range l.length).flatMap Bs)
theorem ExC.same {H H' : Heap} {cs : List Value} {x : Ex} {B : List Nat} (h : ExC H cs x B) (hs : ∀ b ∈ B, H' b = H b) : ExC H' cs x B := by
  induction h with
  | leaf => exact .leaf ..
  | node k s e l p c cs Bs hl hob h h2 ih =>
    refine .node k s e l p c cs Bs hl (by obtain ⟨c0, q, h0⟩ := hob; exact ⟨c0, q, by rw [hs _ (List.mem_cons_self ..)]; exact h0⟩) (fun i hi => ?_) fun i hi => ih i hi fun b hb => hs b (List.mem_cons_of_mem _ (List.mem_flatMap.2 ⟨i, List.mem_range.2 hi, hb⟩))
    have := h i hi
    unfold getc at *
    rw [show H' p.block = H p.block from hs _ (List.mem_cons_self ..)]
    exact this
theorem ExC.lt {H : Heap} {cs : List Value} {x : Ex} {B : List Nat} {nx : Nat} (hok : ∀ id o, H id = some o → id < nx) (h : ExC H cs x B) : ∀ b ∈ B, b < nx := by
  induction h with
  | leaf => intro b hb; cases hb
  | node k s e l p c cs Bs hl hob h h2 ih =>
    intro b hb
    rcases List.mem_cons.1 hb with rfl | hb
    · have hl0 : 0 < l.length := List.length_pos_iff.2 hl
      obtain ⟨o, ho⟩ := getc_some (h 0 hl0)
      exact hok _ _ ho
    · obtain ⟨i, hi, hb⟩ := List.mem_flatMap.1 hb
      exact ih i (List.mem_range.1 hi) b hb
theorem ExC.ext {H H' : Heap} {nx nx' : Nat} {cs : List Value} {x : Ex} {B : List Nat} (hx : Ext nx H nx' H') (hok : ∀ id o, H id = some o → id < nx) (h : ExC H cs x B) : ExC H' cs x B := h.same fun b hb => hx.2 b (h.lt hok b hb)
theorem ExC.cells {H : Heap} {cs : List Value} {k s e : Int} {l : List Ex} {B : List Nat} (h : ExC H cs (.node k s e l) B) : ∃ a c, cs = [.int .i64 k, .int .i64 s, .int .i64 e, .slice a l.length c] := by
  cases h with
  | leaf => exact ⟨_, _, rfl⟩
  | node => exact ⟨_, _, rfl⟩
theorem ExC.at {H : Heap} {cs0 : List Value} {k s e : Int} {l : List Ex} {B : List Nat} {a : Option Addr} {c n : Nat} (h : ExC H cs0 (.node k s e l) B) (hc : cs0 = [.int .i64 k, .int .i64 s, .int .i64 e, .slice a n c]) {i : Nat} (hi : i < l.length) : ∃ p cs B', a = some p ∧ getc H ⟨p.block, p.off + (i : Int).toNat * 4, p.spot⟩ 4 = some cs ∧ ExC H cs l[i] B' ∧ ∀ b ∈ B', b ∈ B := by
  cases h with
  | leaf => simp at hi
  | node k s e l p c cs Bs hl hob h h2 =>
    cases hc
    exact ⟨p, cs i, Bs i, rfl, by simpa using h i hi, h2 i hi, fun b hb => List.mem_cons_of_mem _ (List.mem_flatMap.2 ⟨i, List.mem_range.2 hi, hb⟩)⟩
end Go.Am
namespace Go.Am
open Go.RowKit
section
variable {P : Program} {W0 : World} {ops : Array Oper} {dst : Option Tmp} {op : Op} {guard : Option (Nat × Bool)} {ev : Operand → Option Value} {type : TypeId} {pos : String} {after : Array Edge} {l : List Oper} {tm : Nat → Value} {n nx : Nat} {H : Heap} {v w : Value} {QQ : ASt → Prop} {d : Tmp} {t u s e : TypeId} {x y z : Operand} {k k' : IntKind} {a b : Int}
theorem OpsL.q (hop : aop P H nx (ASt.ev ⟨tm, n, H, nx⟩) ⟨some d, op, type, pos, after, none⟩ = some (v, .none)) (h : OpsL P W0 ops l ⟨tmPut tm (some d) v, n, H, nx⟩ QQ) (hd : d < n := by first | decide | (refine Nat.lt_of_lt_of_eq ?_ (Eq.symm ‹_›); decide)) : OpsL P W0 ops (⟨some d, op, type, pos, after, none⟩ :: l) ⟨tm, n, H, nx⟩ QQ := OpsL.p hd hop h
theorem omv (hx : ev x = some v := by simp only [ASt.ev, tmPut, ↓reduceIte, Nat.reduceEqDiff, plain1, *]; first | done | rfl) : aop P H nx ev ⟨dst, .move x, type, pos, after, guard⟩ = some (v, .none) := aop_move hx
theorem oasg (hx : ev x = some v := by simp only [ASt.ev, tmPut, ↓reduceIte, Nat.reduceEqDiff, plain1, *]; first | done | rfl) : aop P H nx ev ⟨dst, .assign x, type, pos, after, guard⟩ = some (v, .none) := aop_assign hx
theorem olss (hx : ev x = some (.int k a) := by simp only [ASt.ev, tmPut, ↓reduceIte, Nat.reduceEqDiff, plain1, *]; first | done | rfl) (hy : ev y = some (.int k b) := by simp only [ASt.ev, tmPut, ↓reduceIte, Nat.reduceEqDiff, plain1, *]; first | done | rfl) : aop P H nx ev ⟨dst, .binOp .lss t x y u, type, pos, after, guard⟩ = some ((.bool (decide (a < b))), .none) := aop_lss hx hy
theorem OpsL.lssT (h : OpsL P W0 ops l ⟨tmPut tm (some d) (.bool true), n, H, nx⟩ QQ) (hd : d < n := by first | decide | (refine Nat.lt_of_lt_of_eq ?_ (Eq.symm ‹_›); decide)) (hx : ASt.ev ⟨tm, n, H, nx⟩ x = some (.int k a) := by simp only [ASt.ev, tmPut, ↓reduceIte, Nat.reduceEqDiff, plain1, *]; first | done | rfl) (hy : ASt.ev ⟨tm, n, H, nx⟩ y = some (.int k b) := by simp only [ASt.ev, tmPut, ↓reduceIte, Nat.reduceEqDiff, plain1, *]; first | done | rfl) (c : a < b := by omega) : OpsL P W0 ops (⟨some d, .binOp .lss t x y u, type, pos, after, none⟩ :: l) ⟨tm, n, H, nx⟩ QQ := OpsL.p hd (aop_lssT hx hy c) h
theorem OpsL.lssF (h : OpsL P W0 ops l ⟨tmPut tm (some d) (.bool false), n, H, nx⟩ QQ) (hd : d < n := by first | decide | (refine Nat.lt_of_lt_of_eq ?_ (Eq.symm ‹_›); decide)) (hx : ASt.ev ⟨tm, n, H, nx⟩ x = some (.int k a) := by simp only [ASt.ev, tmPut, ↓reduceIte, Nat.reduceEqDiff, plain1, *]; first | done | rfl) (hy : ASt.ev ⟨tm, n, H, nx⟩ y = some (.int k b) := by simp only [ASt.ev, tmPut, ↓reduceIte, Nat.reduceEqDiff, plain1, *]; first | done | rfl) (c : ¬ (a < b) := by omega) : OpsL P W0 ops (⟨some d, .binOp .lss t x y u, type, pos, after, none⟩ :: l) ⟨tm, n, H, nx⟩ QQ := OpsL.p hd (aop_lssF hx hy c) h
theorem OpsL.leqT (h : OpsL P W0 ops l ⟨tmPut tm (some d) (.bool true), n, H, nx⟩ QQ) (hd : d < n := by first | decide | (refine Nat.lt_of_lt_of_eq ?_ (Eq.symm ‹_›); decide)) (hx : ASt.ev ⟨tm, n, H, nx⟩ x = some (.int k a) := by simp only [ASt.ev, tmPut, ↓reduceIte, Nat.reduceEqDiff, plain1, *]; first | done | rfl) (hy : ASt.ev ⟨tm, n, H, nx⟩ y = some (.int k b) := by simp only [ASt.ev, tmPut, ↓reduceIte, Nat.reduceEqDiff, plain1, *]; first | done | rfl) (c : a ≤ b := by omega) : OpsL P W0 ops (⟨some d, .binOp .leq t x y u, type, pos, after, none⟩ :: l) ⟨tm, n, H, nx⟩ QQ := OpsL.p hd (aop_leqT hx hy c) h
theorem OpsL.leqF (h : OpsL P W0 ops l ⟨tmPut tm (some d) (.bool false), n, H, nx⟩ QQ) (hd : d < n := by first | decide | (refine Nat.lt_of_lt_of_eq ?_ (Eq.symm ‹_›); decide)) (hx : ASt.ev ⟨tm, n, H, nx⟩ x = some (.int k a) := by simp only [ASt.ev, tmPut, ↓reduceIte, Nat.reduceEqDiff, plain1, *]; first | done | rfl) (hy : ASt.ev ⟨tm, n, H, nx⟩ y = some (.int k b) := by simp only [ASt.ev, tmPut, ↓reduceIte, Nat.reduceEqDiff, plain1, *]; first | done | rfl) (c : ¬ (a ≤ b) := by omega) : OpsL P W0 ops (⟨some d, .binOp .leq t x y u, type, pos, after, none⟩ :: l) ⟨tm, n, H, nx⟩ QQ := OpsL.p hd (aop_leqF hx hy c) h
theorem ogtr (hx : ev x = some (.int k a) := by simp only [ASt.ev, tmPut, ↓reduceIte, Nat.reduceEqDiff, plain1, *]; first | done | rfl) (hy : ev y = some (.int k b) := by simp only [ASt.ev, tmPut, ↓reduceIte, Nat.reduceEqDiff, plain1, *]; first | done | rfl) : aop P H nx ev ⟨dst, .binOp .gtr t x y u, type, pos, after, guard⟩ = some ((.bool (decide (b < a))), .none) := aop_gtr hx hy
theorem OpsL.gtrT (h : OpsL P W0 ops l ⟨tmPut tm (some d) (.bool true), n, H, nx⟩ QQ) (hd : d < n := by first | decide | (refine Nat.lt_of_lt_of_eq ?_ (Eq.symm ‹_›); decide)) (hx : ASt.ev ⟨tm, n, H, nx⟩ x = some (.int k a) := by simp only [ASt.ev, tmPut, ↓reduceIte, Nat.reduceEqDiff, plain1, *]; first | done | rfl) (hy : ASt.ev ⟨tm, n, H, nx⟩ y = some (.int k b) := by simp only [ASt.ev, tmPut, ↓reduceIte, Nat.reduceEqDiff, plain1, *]; first | done | rfl) (c : b < a := by omega) : OpsL P W0 ops (⟨some d, .binOp .gtr t x y u, type, pos, after, none⟩ :: l) ⟨tm, n, H, nx⟩ QQ := OpsL.p hd (aop_gtrT hx hy c) h
theorem OpsL.gtrF (h : OpsL P W0 ops l ⟨tmPut tm (some d) (.bool false), n, H, nx⟩ QQ) (hd : d < n := by first | decide | (refine Nat.lt_of_lt_of_eq ?_ (Eq.symm ‹_›); decide)) (hx : ASt.ev ⟨tm, n, H, nx⟩ x = some (.int k a) := by simp only [ASt.ev, tmPut, ↓reduceIte, Nat.reduceEqDiff, plain1, *]; first | done | rfl) (hy : ASt.ev ⟨tm, n, H, nx⟩ y = some (.int k b) := by simp only [ASt.ev, tmPut, ↓reduceIte, Nat.reduceEqDiff, plain1, *]; first | done | rfl) (c : ¬ (b < a) := by omega) : OpsL P W0 ops (⟨some d, .binOp .gtr t x y u, type, pos, after, none⟩ :: l) ⟨tm, n, H, nx⟩ QQ := OpsL.p hd (aop_gtrF hx hy c) h
theorem ogeq (hx : ev x = some (.int k a) := by simp only [ASt.ev, tmPut, ↓reduceIte, Nat.reduceEqDiff, plain1, *]; first | done | rfl) (hy : ev y = some (.int k b) := by simp only [ASt.ev, tmPut, ↓reduceIte, Nat.reduceEqDiff, plain1, *]; first | done | rfl) : aop P H nx ev ⟨dst, .binOp .geq t x y u, type, pos, after, guard⟩ = some ((.bool (decide (b ≤ a))), .none) := aop_geq hx hy
theorem OpsL.geqT (h : OpsL P W0 ops l ⟨tmPut tm (some d) (.bool true), n, H, nx⟩ QQ) (hd : d < n := by first | decide | (refine Nat.lt_of_lt_of_eq ?_ (Eq.symm ‹_›); decide)) (hx : ASt.ev ⟨tm, n, H, nx⟩ x = some (.int k a) := by simp only [ASt.ev, tmPut, ↓reduceIte, Nat.reduceEqDiff, plain1, *]; first | done | rfl) (hy : ASt.ev ⟨tm, n, H, nx⟩ y = some (.int k b) := by simp only [ASt.ev, tmPut, ↓reduceIte, Nat.reduceEqDiff, plain1, *]; first | done | rfl) (c : b ≤ a := by omega) : OpsL P W0 ops (⟨some d, .binOp .geq t x y u, type, pos, after, none⟩ :: l) ⟨tm, n, H, nx⟩ QQ := OpsL.p hd (aop_geqT hx hy c) h
theorem OpsL.geqF (h : OpsL P W0 ops l ⟨tmPut tm (some d) (.bool false), n, H, nx⟩ QQ) (hd : d < n := by first | decide | (refine Nat.lt_of_lt_of_eq ?_ (Eq.symm ‹_›); decide)) (hx : ASt.ev ⟨tm, n, H, nx⟩ x = some (.int k a) := by simp only [ASt.ev, tmPut, ↓reduceIte, Nat.reduceEqDiff, plain1, *]; first | done | rfl) (hy : ASt.ev ⟨tm, n, H, nx⟩ y = some (.int k b) := by simp only [ASt.ev, tmPut, ↓reduceIte, Nat.reduceEqDiff, plain1, *]; first | done | rfl) (c : ¬ (b ≤ a) := by omega) : OpsL P W0 ops (⟨some d, .binOp .geq t x y u, type, pos, after, none⟩ :: l) ⟨tm, n, H, nx⟩ QQ := OpsL.p hd (aop_geqF hx hy c) h
theorem oeql (hx : ev x = some (.int k a) := by simp only [ASt.ev, tmPut, ↓reduceIte, Nat.reduceEqDiff, plain1, *]; first | done | rfl) (hy : ev y = some (.int k b) := by simp only [ASt.ev, tmPut, ↓reduceIte, Nat.reduceEqDiff, plain1, *]; first | done | rfl) : aop P H nx ev ⟨dst, .binOp .eql t x y u, type, pos, after, guard⟩ = some ((.bool (decide (a = b))), .none) := aop_eql hx hy
theorem OpsL.eqlT (h : OpsL P W0 ops l ⟨tmPut tm (some d) (.bool true), n, H, nx⟩ QQ) (hd : d < n := by first | decide | (refine Nat.lt_of_lt_of_eq ?_ (Eq.symm ‹_›); decide)) (hx : ASt.ev ⟨tm, n, H, nx⟩ x = some (.int k a) := by simp only [ASt.ev, tmPut, ↓reduceIte, Nat.reduceEqDiff, plain1, *]; first | done | rfl) (hy : ASt.ev ⟨tm, n, H, nx⟩ y = some (.int k b) := by simp only [ASt.ev, tmPut, ↓reduceIte, Nat.reduceEqDiff, plain1, *]; first | done | rfl) (c : a = b := by omega) : OpsL P W0 ops (⟨some d, .binOp .eql t x y u, type, pos, after, none⟩ :: l) ⟨tm, n, H, nx⟩ QQ := OpsL.p hd (aop_eqlT hx hy c) h
theorem OpsL.eqlF (h : OpsL P W0 ops l ⟨tmPut tm (some d) (.bool false), n, H, nx⟩ QQ) (hd : d < n := by first | decide | (refine Nat.lt_of_lt_of_eq ?_ (Eq.symm ‹_›); decide)) (hx : ASt.ev ⟨tm, n, H, nx⟩ x = some (.int k a) := by simp only [ASt.ev, tmPut, ↓reduceIte, Nat.reduceEqDiff, plain1, *]; first | done | rfl) (hy : ASt.ev ⟨tm, n, H, nx⟩ y = some (.int k b) := by simp only [ASt.ev, tmPut, ↓reduceIte, Nat.reduceEqDiff, plain1, *]; first | done | rfl) (c : ¬ (a = b) := by omega) : OpsL P W0 ops (⟨some d, .binOp .eql t x y u, type, pos, after, none⟩ :: l) ⟨tm, n, H, nx⟩ QQ := OpsL.p hd (aop_eqlF hx hy c) h
theorem OpsL.neqT (h : OpsL P W0 ops l ⟨tmPut tm (some d) (.bool true), n, H, nx⟩ QQ) (hd : d < n := by first | decide | (refine Nat.lt_of_lt_of_eq ?_ (Eq.symm ‹_›); decide)) (hx : ASt.ev ⟨tm, n, H, nx⟩ x = some (.int k a) := by simp only [ASt.ev, tmPut, ↓reduceIte, Nat.reduceEqDiff, plain1, *]; first | done | rfl) (hy : ASt.ev ⟨tm, n, H, nx⟩ y = some (.int k b) := by simp only [ASt.ev, tmPut, ↓reduceIte, Nat.reduceEqDiff, plain1, *]; first | done | rfl) (c : a ≠ b := by omega) : OpsL P W0 ops (⟨some d, .binOp .neq t x y u, type, pos, after, none⟩ :: l) ⟨tm, n, H, nx⟩ QQ := OpsL.p hd (aop_neqT hx hy c) h
theorem OpsL.neqF (h : OpsL P W0 ops l ⟨tmPut tm (some d) (.bool false), n, H, nx⟩ QQ) (hd : d < n := by first | decide | (refine Nat.lt_of_lt_of_eq ?_ (Eq.symm ‹_›); decide)) (hx : ASt.ev ⟨tm, n, H, nx⟩ x = some (.int k a) := by simp only [ASt.ev, tmPut, ↓reduceIte, Nat.reduceEqDiff, plain1, *]; first | done | rfl) (hy : ASt.ev ⟨tm, n, H, nx⟩ y = some (.int k b) := by simp only [ASt.ev, tmPut, ↓reduceIte, Nat.reduceEqDiff, plain1, *]; first | done | rfl) (c : a = b := by omega) : OpsL P W0 ops (⟨some d, .binOp .neq t x y u, type, pos, after, none⟩ :: l) ⟨tm, n, H, nx⟩ QQ := OpsL.p hd (aop_neqF hx hy c) h
theorem onot {q : Bool} (hx : ev x = some (.bool q) := by simp only [ASt.ev, tmPut, ↓reduceIte, Nat.reduceEqDiff, plain1, *]; first | done | rfl) : aop P H nx ev ⟨dst, .unOp .not t x, type, pos, after, guard⟩ = some ((.bool (!q)), .none) := aop_not hx
theorem oadd (hx : ev x = some (.int .i64 a) := by simp only [ASt.ev, tmPut, ↓reduceIte, Nat.reduceEqDiff, plain1, *]; first | done | rfl) (hy : ev y = some (.int .i64 b) := by simp only [ASt.ev, tmPut, ↓reduceIte, Nat.reduceEqDiff, plain1, *]; first | done | rfl) (c : -9223372036854775808 ≤ a + b ∧ a + b ≤ 9223372036854775807 := by omega) : aop P H nx ev ⟨dst, .binOp .add t x y u, type, pos, after, guard⟩ = some ((.int .i64 (a + b)), .none) := aop_add hx hy c
theorem osub (hx : ev x = some (.int .i64 a) := by simp only [ASt.ev, tmPut, ↓reduceIte, Nat.reduceEqDiff, plain1, *]; first | done | rfl) (hy : ev y = some (.int .i64 b) := by simp only [ASt.ev, tmPut, ↓reduceIte, Nat.reduceEqDiff, plain1, *]; first | done | rfl) (c : -9223372036854775808 ≤ a - b ∧ a - b ≤ 9223372036854775807 := by omega) : aop P H nx ev ⟨dst, .binOp .sub t x y u, type, pos, after, guard⟩ = some ((.int .i64 (a - b)), .none) := aop_sub hx hy c
theorem olen {m c : Nat} {p : Option Addr} (hx : ev x = some (.slice p m c) := by simp only [ASt.ev, tmPut, ↓reduceIte, Nat.reduceEqDiff, plain1, *]; first | done | rfl) (hu : P.underlying t = some (.slice e) := by exact rfl) : aop P H nx ev ⟨dst, .call ⟨.builtin .len, #[x], #[t]⟩, type, pos, after, guard⟩ = some ((.int .i64 (m : Int)), .none) := aop_len hx hu
theorem oixa {m c sz : Nat} {p : Addr} (hx : ev x = some (.slice (some p) m c) := by simp only [ASt.ev, tmPut, ↓reduceIte, Nat.reduceEqDiff, plain1, *]; first | done | rfl) (hy : ev y = some (.int k a) := by simp only [ASt.ev, tmPut, ↓reduceIte, Nat.reduceEqDiff, plain1, *]; first | done | rfl) (hu : P.underlying t = some (.slice e) := by exact rfl) (hs : szOf P e = some sz := by exact rfl) (h0 : 0 ≤ a := by omega) (h1 : a < m := by omega) : aop P H nx ev ⟨dst, .indexAddr t x y, type, pos, after, guard⟩ = some ((.pointer (some ⟨p.block, p.off + a.toNat * sz, p.spot⟩)), .none) := aop_indexAddr hx hy hu hs h0 h1
theorem ofa {f : Nat} {p : Addr} (hx : ev x = some (.pointer (some p)) := by simp only [ASt.ev, tmPut, ↓reduceIte, Nat.reduceEqDiff, plain1, *]; first | done | rfl) (hv : aFieldAddr P s (.pointer (some p)) f = some v := by exact rfl) : aop P H nx ev ⟨dst, .fieldAddr s x f, type, pos, after, guard⟩ = some (v, .none) := aop_fieldAddr hx hv
theorem old {p : Addr} {dd : TypeDesc} (hx : ev x = some (.pointer (some p)) := by simp only [ASt.ev, tmPut, ↓reduceIte, Nat.reduceEqDiff, plain1, *]; first | done | rfl) (hu : P.underlying t = some dd := by exact rfl) (hg : isAggD dd = false := by rfl) (hc : cellAt H p v := by assumption) : aop P H nx ev ⟨dst, .load t x, type, pos, after, guard⟩ = some (v, .none) := aop_load hx hu hg hc
theorem oldP {p : Addr} {dd : TypeDesc} {vs : List Value} (hx : ev x = some (.pointer (some p)) := by simp only [ASt.ev, tmPut, ↓reduceIte, Nat.reduceEqDiff, plain1, *]; first | done | rfl) (hu : P.underlying t = some dd := by exact rfl) (hg : isAggD dd = true := by rfl) (hs : szOf P t = some 2 := by exact rfl) (hc : getc H p 2 = some vs := by assumption) : aop P H nx ev ⟨dst, .load t x, type, pos, after, guard⟩ = some ((.agg vs.toArray), .none) := aop_loadAgg hx hu hg hs hc
theorem opkT (hx : ev x = some (.bool true) := by simp only [ASt.ev, tmPut, ↓reduceIte, reduceIte, Nat.reduceEqDiff, decide_true, decide_false, not_true_eq_false, not_false_eq_true, Bool.not_true, Bool.not_false, *]; first | done | rfl) (hy : ev y = some v := by simp only [ASt.ev, tmPut, ↓reduceIte, Nat.reduceEqDiff, plain1, *]; first | done | rfl) : aop P H nx ev ⟨dst, .pick x y z, type, pos, after, guard⟩ = some (v, .none) := aop_pickT hx hy
theorem opkF (hx : ev x = some (.bool false) := by simp only [ASt.ev, tmPut, ↓reduceIte, reduceIte, Nat.reduceEqDiff, decide_true, decide_false, not_true_eq_false, not_false_eq_true, Bool.not_true, Bool.not_false, *]; first | done | rfl) (hy : ev z = some v := by simp only [ASt.ev, tmPut, ↓reduceIte, Nat.reduceEqDiff, plain1, *]; first | done | rfl) : aop P H nx ev ⟨dst, .pick x y z, type, pos, after, guard⟩ = some (v, .none) := aop_pickF hx hy
theorem OpsL.ung {j : Nat} {want : Bool} {d' : Tmp} (h : OpsL P W0 ops (⟨dst, op, type, pos, after, none⟩ :: l) ⟨tm, n, H, nx⟩ QQ) (hj : (ops[j]?).bind (·.dst) = some d' := by exact rfl) (hb : tm d' = .bool want := by simp only [ASt.ev, tmPut, ↓reduceIte, reduceIte, Nat.reduceEqDiff, decide_true, decide_false, not_true_eq_false, not_false_eq_true, Bool.not_true, Bool.not_false, *]; first | done | rfl) : OpsL P W0 ops (⟨dst, op, type, pos, after, some (j, want)⟩ :: l) ⟨tm, n, H, nx⟩ QQ := OpsL.unguard hj hb h
theorem OpsL.skp {j : Nat} {want : Bool} {d' : Tmp} (h : OpsL P W0 ops l ⟨tmPut tm (some d) undef, n, H, nx⟩ QQ) (hj : (ops[j]?).bind (·.dst) = some d' := by exact rfl) (hb : tm d' = .bool (!want) := by simp only [ASt.ev, tmPut, ↓reduceIte, reduceIte, Nat.reduceEqDiff, decide_true, decide_false, not_true_eq_false, not_false_eq_true, Bool.not_true, Bool.not_false, *]; first | done | rfl) (hd : d < n := by first | decide | (refine Nat.lt_of_lt_of_eq ?_ (Eq.symm ‹_›); decide)) : OpsL P W0 ops (⟨some d, op, type, pos, after, some (j, want)⟩ :: l) ⟨tm, n, H, nx⟩ QQ := OpsL.skipped hj hb hd h
theorem OpsL.sku {j : Nat} {want : Bool} {d' : Tmp} (h : OpsL P W0 ops l ⟨tmPut tm (some d) undef, n, H, nx⟩ QQ) (hj : (ops[j]?).bind (·.dst) = some d' := by exact rfl) (hb : tm d' = undef := by simp only [ASt.ev, tmPut, ↓reduceIte, reduceIte, Nat.reduceEqDiff, decide_true, decide_false, not_true_eq_false, not_false_eq_true, Bool.not_true, Bool.not_false, *]; first | done | rfl) (hd : d < n := by first | decide | (refine Nat.lt_of_lt_of_eq ?_ (Eq.symm ‹_›); decide)) : OpsL P W0 ops (⟨some d, op, type, pos, after, some (j, want)⟩ :: l) ⟨tm, n, H, nx⟩ QQ := OpsL.skippedU hj hb hd h
theorem OpsL.gT {j : Nat} {d' : Tmp} {p : Prop} [Decidable p] (h1 : p → OpsL P W0 ops (⟨some d, op, type, pos, after, none⟩ :: l) ⟨tm, n, H, nx⟩ QQ) (h2 : ¬p → OpsL P W0 ops l ⟨tmPut tm (some d) undef, n, H, nx⟩ QQ) (hj : (ops[j]?).bind (·.dst) = some d' := by exact rfl) (hb : tm d' = .bool (decide p) := by simp only [ASt.ev, tmPut, ↓reduceIte, Nat.reduceEqDiff, plain1, *]; first | done | rfl) (hd : d < n := by first | decide | (refine Nat.lt_of_lt_of_eq ?_ (Eq.symm ‹_›); decide)) : OpsL P W0 ops (⟨some d, op, type, pos, after, some (j, true)⟩ :: l) ⟨tm, n, H, nx⟩ QQ := OpsL.guardT hj hb hd h1 h2
theorem OpsL.gF {j : Nat} {d' : Tmp} {p : Prop} [Decidable p] (h1 : ¬p → OpsL P W0 ops (⟨some d, op, type, pos, after, none⟩ :: l) ⟨tm, n, H, nx⟩ QQ) (h2 : p → OpsL P W0 ops l ⟨tmPut tm (some d) undef, n, H, nx⟩ QQ) (hj : (ops[j]?).bind (·.dst) = some d' := by exact rfl) (hb : tm d' = .bool (decide p) := by simp only [ASt.ev, tmPut, ↓reduceIte, Nat.reduceEqDiff, plain1, *]; first | done | rfl) (hd : d < n := by first | decide | (refine Nat.lt_of_lt_of_eq ?_ (Eq.symm ‹_›); decide)) : OpsL P W0 ops (⟨some d, op, type, pos, after, some (j, false)⟩ :: l) ⟨tm, n, H, nx⟩ QQ := OpsL.guardF hj hb hd h1 h2
variable {f : FuncId} {R : Value → Nat → Heap → Prop} {ts : Array TypeId} {va vb vc ve : Value}
theorem OpsL.c0 (hd : d < n := by first | decide | (refine Nat.lt_of_lt_of_eq ?_ (Eq.symm ‹_›); decide))  (hf : Enters P f) (hc : ACalls P W0 f [] nx H R) (h : ∀ v nx' H', R v nx' H' → OpsL P W0 ops l ⟨tmPut tm (some d) v, n, H', nx'⟩ QQ) : OpsL P W0 ops (⟨some d, .call ⟨.value (.func f), #[], ts⟩, type, pos, after, none⟩ :: l) ⟨tm, n, H, nx⟩ QQ := OpsL.call0 hd  hf hc h
theorem OpsL.c1 (hd : d < n := by first | decide | (refine Nat.lt_of_lt_of_eq ?_ (Eq.symm ‹_›); decide)) (hx : ASt.ev ⟨tm, n, H, nx⟩ x = some va := by simp only [ASt.ev, tmPut, ↓reduceIte, Nat.reduceEqDiff, plain1, *]; first | done | rfl) (hf : Enters P f) (hc : ACalls P W0 f [va] nx H R) (h : ∀ v nx' H', R v nx' H' → OpsL P W0 ops l ⟨tmPut tm (some d) v, n, H', nx'⟩ QQ) : OpsL P W0 ops (⟨some d, .call ⟨.value (.func f), #[x], ts⟩, type, pos, after, none⟩ :: l) ⟨tm, n, H, nx⟩ QQ := OpsL.call1 hd hx hf hc h
theorem OpsL.c2 (hd : d < n := by first | decide | (refine Nat.lt_of_lt_of_eq ?_ (Eq.symm ‹_›); decide)) (hx : ASt.ev ⟨tm, n, H, nx⟩ x = some va := by simp only [ASt.ev, tmPut, ↓reduceIte, Nat.reduceEqDiff, plain1, *]; first | done | rfl) (hy : ASt.ev ⟨tm, n, H, nx⟩ y = some vb := by simp only [ASt.ev, tmPut, ↓reduceIte, Nat.reduceEqDiff, plain1, *]; first | done | rfl) (hf : Enters P f) (hc : ACalls P W0 f [va, vb] nx H R) (h : ∀ v nx' H', R v nx' H' → OpsL P W0 ops l ⟨tmPut tm (some d) v, n, H', nx'⟩ QQ) : OpsL P W0 ops (⟨some d, .call ⟨.value (.func f), #[x, y], ts⟩, type, pos, after, none⟩ :: l) ⟨tm, n, H, nx⟩ QQ := OpsL.call2 hd hx hy hf hc h
theorem OpsL.c3 (hd : d < n := by first | decide | (refine Nat.lt_of_lt_of_eq ?_ (Eq.symm ‹_›); decide)) (hx : ASt.ev ⟨tm, n, H, nx⟩ x = some va := by simp only [ASt.ev, tmPut, ↓reduceIte, Nat.reduceEqDiff, plain1, *]; first | done | rfl) (hy : ASt.ev ⟨tm, n, H, nx⟩ y = some vb := by simp only [ASt.ev, tmPut, ↓reduceIte, Nat.reduceEqDiff, plain1, *]; first | done | rfl) (hz : ASt.ev ⟨tm, n, H, nx⟩ z = some vc := by simp only [ASt.ev, tmPut, ↓reduceIte, Nat.reduceEqDiff, plain1, *]; first | done | rfl) (hf : Enters P f) (hc : ACalls P W0 f [va, vb, vc] nx H R) (h : ∀ v nx' H', R v nx' H' → OpsL P W0 ops l ⟨tmPut tm (some d) v, n, H', nx'⟩ QQ) : OpsL P W0 ops (⟨some d, .call ⟨.value (.func f), #[x, y, z], ts⟩, type, pos, after, none⟩ :: l) ⟨tm, n, H, nx⟩ QQ := OpsL.call3 hd hx hy hz hf hc h
end
section
variable {P : Program} {W0 : World} {st : ASt} {Q : AExit → ASt → Prop} {c : Operand} {x y : Code}
theorem Trip.itA {p : Prop} [Decidable p] (h1 : p → Trip P W0 x st Q) (h2 : ¬p → Trip P W0 y st Q) (hc : st.ev c = some (.bool (decide p)) := by simp only [ASt.ev, tmPut, ↓reduceIte, Nat.reduceEqDiff, plain1, *]; first | done | rfl) : Trip P W0 (.cond c x y) st Q := Trip.ite hc h1 h2
theorem Trip.ifT (h : Trip P W0 x st Q) (hc : st.ev c = some (.bool true) := by simp only [ASt.ev, tmPut, ↓reduceIte, reduceIte, Nat.reduceEqDiff, decide_true, decide_false, not_true_eq_false, not_false_eq_true, Bool.not_true, Bool.not_false, *]; first | done | rfl) : Trip P W0 (.cond c x y) st Q := Trip.iteB hc (fun _ => h) (fun h => absurd h (by decide))
theorem Trip.ifF (h : Trip P W0 y st Q) (hc : st.ev c = some (.bool false) := by simp only [ASt.ev, tmPut, ↓reduceIte, reduceIte, Nat.reduceEqDiff, decide_true, decide_false, not_true_eq_false, not_false_eq_true, Bool.not_true, Bool.not_false, *]; first | done | rfl) : Trip P W0 (.cond c x y) st Q := Trip.iteB hc (fun h => absurd h (by decide)) (fun _ => h)
end
end Go.Am

import Derived.Test.YtjgbcpagfghfnaaQYM6
import Derived.Lib.Builder
import Derived.Test.YtjgbcpagfghfnaaQYM8
set_option linter.unusedVariables false
set_option linter.unusedSimpArgs false
set_option linter.unnecessarySimpa false
namespace Go.Am
open Go.RowKit
section
variable {P : Program} {W0 : World} {C : Corr} {nx : Nat} {H : Heap} {w : World}
def z8a (P : Program) (H : Heap) (src dst : TypeId) (x : Value) : Option Value :=
 match P.underlying src, P.underlying dst, x with
 | some (.pointer t), some .unsafePointer, .pointer (some a) =>
  match z1W P t, H a.block with
  | some n, some (.cells c _ tag _ _) => if n ≠ 0 ∧ tag = a.spot ∧ a.off < c.length then some (.pointer (some a)) else none
  | _, _ => none
 | some .unsafePointer, some (.pointer u), .pointer (some a) =>
  match z1W P u, H a.block with
  | some _, some (.cells c _ none false (some e)) => if a.spot = none ∧ liesAt P P.depth e (c.length / P.cellsOf e) a.off u 1 = true then some (.pointer (some a)) else none
  | _, _ => none
 | _, _, _ => none
theorem z7r (hR : Rel W0 C nx H w) {src dst : TypeId} {x x' v : Value} (h : z8a P H src dst x = some v) (hx : VR nx H C x x') : Snd W0 C nx H ((convert src dst x').run P w) v .none := by
 unfold z8a at h;split at h
 ·rename_i t a hs hd;split at h
  ·rename_i n c e tag ro q hn ho;split at h
   ·rename_i hc;cases h;cases hx with
    | ptr _ b k1 k2 =>
    obtain rfl := k2 ⟨_, ho, hc.2.1⟩;obtain ⟨Cc, el, fr, r1, r2, r3, r4, r5⟩ := hR.obj _ _ ho;unfold z1W at hn;cases hi : P.info? t with
    | none => simp [hi] at hn
    | some j =>
     have hj : j.size ≠ 0 := by simp [hi] at hn; omega
     have hsh : w.shape? (C.at a).block = some (el, Cc.size) := by simp [World.shape?, Corr.at, r1]
     have := Lib.run_to_unsafe (P := P) w (C.at a) hs hd hi hj hsh (by simp only [Corr.at]; omega);exact Snd.same hR this (.ptr _ _ k1 (fun _ => rfl))
   ·cases h
  ·cases h
 ·rename_i u a hs hd;split at h
  ·rename_i n c e el hn ho;split at h
   ·rename_i hc;cases h;cases hx with
    | ptr _ b k1 k2 =>
    obtain rfl := k2 ⟨_, ho, hc.1.symm⟩;obtain ⟨Cc, el', fr, r1, r2, r3, r4, r5, r6, r7⟩ := hR.obj _ _ ho;obtain rfl := r6 _ rfl;obtain ⟨q1, q2⟩ := r7.1 rfl rfl;unfold z1W at hn;cases hi : P.info? u with
    | none => simp [hi] at hn
    | some j =>
     have hsh : w.shape? (C.at a).block = some (el', Cc.size) := by simp [World.shape?, Corr.at, r1]
     have := Lib.run_from_unsafe (P := P) w (C.at a) hs hd hi hsh (by simp only [Corr.at, q1, q2, Nat.zero_add]; exact hc.2);exact Snd.same hR this (.ptr _ _ k1 (fun _ => rfl))
   ·cases h
  ·cases h
 ·cases h
end
end Go.Am
namespace Go.Am
open Go.RowKit
section
variable {P : Program} {W0 : World} {C : Corr} {nx : Nat} {H : Heap} {w : World}
def z84 : Operand → Bool
 | .const _ => true
 | _ => false
def zer (P : Program) (t : TypeId) (x y : Operand) (a b : Value) : Bool :=
 match a, b with
 | .nilIface, .nilIface => z84 x || z84 y
 | .agg _, .agg _ => !P.eqGuardType P.depth t
 | _, _ => true
def z7a (P : Program) (H : Heap) (op : BinOp) (t : TypeId) (x y : Operand) (a b : Value) : Option Value :=
 match a, b with
 | .int k n, .int k' m => if op = .shl ∨ op = .shr then zcp op k n m else if k = k' then z1h op k n m else none
 | .string s, .string r => zah op s r
 | a, b =>
  if zer P t x y a b then
   match op with
   | .eql => (aEq P H 60 t a b).map .bool
   | .neq => (aEq P H 60 t a b).map fun b => .bool !b
   | _ => none
  else none
theorem zak {op : BinOp} {t : TypeId} {x y : Operand} {a b a' b' : Value} (h : zer P t x y a b = true) (ha : VR nx H C a a') (hb : VR nx H C b b') (w : World) : (eqGuard op t x y a' b').run P w = .ok () w := by
 by_cases hagg : ∃ xs ys, a' = .agg xs ∧ b' = .agg ys
 ·obtain ⟨xs, ys, rfl, rfl⟩ := hagg;cases ha with
  | agg a1 _ p1 p2 =>
  cases hb with
  | agg b1 _ q1 q2 =>
  have : P.eqGuardType P.depth t = false := by simpa [zer] using h
  exact run_eqGuard_agg w op t x y xs ys this
 ·by_cases hnil : a' = .nilIface ∧ b' = .nilIface
  ·obtain ⟨rfl, rfl⟩ := hnil;cases ha; cases hb;simp only [zer, Bool.or_eq_true] at h;cases op <;> first | (simp [eqGuard]; done) | skip
   all_goals
    cases x <;> cases y <;> first | (simp [z84] at h; done) | simp [eqGuard]
  ·cases ha <;> cases hb <;> first | (exact absurd ⟨_, _, rfl, rfl⟩ hagg) | (exact absurd ⟨rfl, rfl⟩ hnil) | (cases op <;> simp [eqGuard])
theorem z8r {op : BinOp} {s r : ByteArray} {v : Value} (h : zah op s r = some v) (w : World) : (Op.stringOp op s r).run P w = .ok v w ∧ VR nx H C v v := by
 have e1 : (s.toList == r.toList) = sEq s r := by rw [← beq_toListBytes]; exact z4v s r
 have e2 : Op.bytesLess s.toList r.toList = sLt s r := by rw [ByteArray.toList_eq, ByteArray.toList_eq]; rfl
 cases op <;> simp only [zah] at h <;> try (cases h; done)
 ·split at h
  ·rename_i hl;simp only [Option.some.injEq] at h;subst h;refine ⟨?_, .string _⟩;have hs : s.size = s.data.toList.length := by rw [Array.length_toList]; rfl
   have hr : r.size = r.data.toList.length := by rw [Array.length_toList]; rfl
   have hmax : IntKind.i64.max = 9223372036854775807 := rfl
   have happ : s ++ r = ⟨(s.data.toList ++ r.data.toList).toArray⟩ := by
    have : (s ++ r).data = s.data ++ r.data := ByteArray.data_append;cases hsr : s ++ r with
    | mk d => rw [hsr] at this; simp only at this; rw [this]; congr 1; apply Array.ext'; simp
   simp only [Op.stringOp];rw [if_neg (by rw [hs, hr, hmax]; omega), happ];rfl
  ·cases h
 all_goals
  simp only [Option.some.injEq] at h;subst h;refine ⟨?_, .bool _⟩;simp [Op.stringOp, e1, e2]
theorem z7i {t : TypeId} {op : BinOp} {k : IntKind} {x y : Int} {v : Value} (h : z1h op k x y = some v) (w : World) : (binOp op t (.int k x) (.int k y)).run P w = .ok v w ∧ VR nx H C v v := by
 cases op <;> simp only [z1h] at h <;> try (cases h; done)
 case quo => split at h <;> first | (cases h; done) | (rename_i hy; cases h; refine ⟨?_, .int _ _⟩; simp [binOp, Op.intDiv, hy])
 case rem => split at h <;> first | (cases h; done) | (rename_i hy; cases h; refine ⟨?_, .int _ _⟩; simp [binOp, Op.intDiv, hy])
 all_goals
  simp only [Option.some.injEq] at h;subst h;refine ⟨?_, by first | exact .int _ _ | exact .bool _⟩;simp [binOp, Op.intArith, Op.intBits, Op.intCmp]
theorem z9F {t : TypeId} {op : BinOp} {k k' : IntKind} {x y : Int} {v : Value} (h : zcp op k x y = some v) (w : World) : (binOp op t (.int k x) (.int k' y)).run P w = .ok v w ∧ VR nx H C v v := by
 unfold zcp at h;split at h
 ·cases h
 ·rename_i hy;cases op <;> simp only at h <;> try (cases h; done)
  all_goals
   simp only [Option.some.injEq] at h;subst h;refine ⟨?_, .int _ _⟩;simp [binOp, Op.shift, hy]
theorem zbP (hR : Rel W0 C nx H w) {op : BinOp} {t : TypeId} {x y : Operand} {a b a' b' v : Value} (h : z7a P H op t x y a b = some v) (ha : VR nx H C a a') (hb : VR nx H C b b') :
  Snd W0 C nx H ((do eqGuard op t x y a' b'; binOp op t a' b' : Sem Value).run P w) v .none := by
 unfold z7a at h;split at h
 ·rename_i k n k' m;cases ha; cases hb;have hg : (eqGuard op t x y (.int k n) (.int k' m)).run P w = .ok () w := by cases op <;> simp [eqGuard]
  split at h
  ·obtain ⟨e1, e2⟩ := z9F (P := P) (nx := nx) (H := H) (C := C) (t := t) (k' := k') h w;exact Snd.same hR (v' := v) (by simp only [Sem.run_bind, hg, Result.andThen_ok, e1]) e2
  ·split at h
   ·rename_i hk;subst hk;obtain ⟨e1, e2⟩ := z7i (P := P) (nx := nx) (H := H) (C := C) (t := t) h w;exact Snd.same hR (v' := v) (by simp only [Sem.run_bind, hg, Result.andThen_ok, e1]) e2
   ·cases h
 ·rename_i s r;cases ha; cases hb;have hg : (eqGuard op t x y (.string s) (.string r)).run P w = .ok () w := by cases op <;> simp [eqGuard]
  obtain ⟨e1, e2⟩ := z8r (P := P) (nx := nx) (H := H) (C := C) h w;refine Snd.same hR (v' := v) ?_ e2;simp only [Sem.run_bind, hg, Result.andThen_ok];cases op <;> exact e1
 ·rename_i hn1 hn2;split at h
  ·rename_i hok;have hg := zak (op := op) hok ha hb w
   have hnot1 : ∀ k n k' m, ¬ (a' = .int k n ∧ b' = .int k' m) := by
    rintro k n k' m ⟨rfl, rfl⟩;cases ha; cases hb;exact hn1 _ _ _ _ rfl rfl
   have hnot2 : ∀ s r, ¬ (a' = .string s ∧ b' = .string r) := by
    rintro s r ⟨rfl, rfl⟩;cases ha; cases hb;exact hn2 _ _ rfl rfl
   split at h
   ·simp only [Option.map_eq_some_iff] at h;obtain ⟨r, hr, rfl⟩ := h;have e1 := z5e (P := P) (w := w) hR 60 10000 t a b a' b' r (by omega) hr ha hb;refine Snd.same hR (v' := .bool r) ?_ (.bool _)
    have hb' : (binOp .eql t a' b').run P w = .ok (.bool r) w := by
     cases a' <;> cases b' <;> first
      | (exact absurd ⟨rfl, rfl⟩ (hnot1 _ _ _ _))
      | (exact absurd ⟨rfl, rfl⟩ (hnot2 _ _))
      | (exfalso; cases ha; done)
      | (exfalso; cases hb; done)
      | (simp only [binOp, Op.equal, Op.maxDepth, Sem.run_bind, e1, Result.andThen_ok, Sem.run_pure])
    simp only [Sem.run_bind, hg, Result.andThen_ok, hb']
   ·simp only [Option.map_eq_some_iff] at h;obtain ⟨r, hr, rfl⟩ := h;have e1 := z5e (P := P) (w := w) hR 60 10000 t a b a' b' r (by omega) hr ha hb;refine Snd.same hR (v' := .bool !r) ?_ (.bool _)
    have hb' : (binOp .neq t a' b').run P w = .ok (.bool !r) w := by
     cases a' <;> cases b' <;> first
      | (exact absurd ⟨rfl, rfl⟩ (hnot1 _ _ _ _))
      | (exact absurd ⟨rfl, rfl⟩ (hnot2 _ _))
      | (exfalso; cases ha; done)
      | (exfalso; cases hb; done)
      | (simp only [binOp, Op.equal, Op.maxDepth, Sem.run_bind, e1, Result.andThen_ok, Sem.run_pure])
    simp only [Sem.run_bind, hg, Result.andThen_ok, hb']
   ·cases h
  ·cases h
def aUn (op : UnOp) (x : Value) : Option Value :=
 match op, x with
 | .neg, .int k n => some (.int k (k.wrap (0 - n)))
 | .xor, .int k n => some (.int k (k.wrap ((BitVec.ofInt k.bits (if k.signed then -1 else k.max) ^^^ BitVec.ofInt k.bits n).toNat)))
 | .not, .bool b => some (.bool !b)
 | _, _ => none
theorem zda (hR : Rel W0 C nx H w) {op : UnOp} {x x' v : Value} (h : aUn op x = some v) (hx : VR nx H C x x') : Snd W0 C nx H ((Op.unary op x').run P w) v .none := by
 unfold aUn at h;split at h
 ·cases h; cases hx; exact Snd.same hR (by simp [Op.unary, Op.intArith]) (.int _ _)
 ·cases h; cases hx; exact Snd.same hR (by simp [Op.unary, Op.intBits]) (.int _ _)
 ·cases h; cases hx; exact Snd.same hR (by simp [Op.unary]) (.bool _)
 ·cases h
def zQ (ev : Operand → Option Value) : List (Nat × Operand) → Option (List (Nat × Value))
 | [] => some []
 | (i, x) :: r =>
  match ev x, zQ ev r with
  | some v, some l => some ((i, v) :: l)
  | _, _ => none
def z1k (ev : Operand → Option Value) : List Operand → Option (List Value)
 | [] => some []
 | x :: r =>
  match ev x, z1k ev r with
  | some v, some l => some (v :: l)
  | _, _ => none
def z3Y (ev : Operand → Option Value) : Option Operand → Option (Option Value)
 | none => some none
 | some x => (ev x).map some
def z1o (P : Program) (H : Heap) (nx : Nat) (b : Builtin) (argTypes : Array TypeId) (args : List Value) : Option (Value × Eff) :=
 match b, args with
 | .append, [s, x] => match z3h P H nx argTypes s x with | some r => some r | none => z8b P nx argTypes s x
 | .len, [x] => (zfL P H argTypes x).map (·, .none)
 | .clear, [m] => match zcu P H argTypes m with | some e => some (.tuple #[], e) | none => (zaj P H argTypes m).map (.tuple #[], ·)
 | .cap, [x] => (zh1 P H argTypes x).map (·, .none)
 | _, _ => none
def aop (P : Program) (H : Heap) (nx : Nat) (ev : Operand → Option Value) (o : Oper) : Option (Value × Eff) :=
 match o.op with
 | .move x | .assign x => (ev x).map (·, .none)
 | .pick c a b =>
  match ev c with
  | some (.bool true) => (ev a).map (·, .none)
  | some (.bool false) => (ev b).map (·, .none)
  | _ => none
 | .alloc t => zaM P nx t
 | .box t x => (ev x).map fun v => (.pointer (some ⟨nx, 0, none⟩), .new (.cells v.cells.toList 0 none false (some t)))
 | .build t parts => (zQ ev parts.toList).bind fun l => (zaL P t l).map (·, .none)
 | .buildSlice t len parts => (zQ ev parts.toList).bind fun l => z2q P nx t len l
 | .load t a => (ev a).bind fun v => (zbp P H t v).map (·, .none)
 | .store t a x => (ev a).bind fun v => (ev x).bind fun u => (z8P P H t v u).map (undef, ·)
 | .nilCheck x =>
  match ev x with
  | some (.pointer (some a)) => some (.pointer (some a), .none)
  | some (.func (.func f) a b) => some (.func (.func f) a b, .none)
  | _ => none
 | .binOp op t x y _ => (ev x).bind fun a => (ev y).bind fun b => (z7a P H op t x y a b).map (·, .none)
 | .unOp op _ x => (ev x).bind fun v => (aUn op v).map (·, .none)
 | .convert src dst x => (ev x).bind fun v => match z56 P nx H src dst v with | some r => some r | none => match z8a P H src dst v with | some r => some (r, .none) | none => (zai P src dst v).map (·, .none)
 | .makeFunc fn first captured => (z1k ev first.toList).bind fun a => (z1k ev captured.toList).map fun b => (.func fn a.toArray b.toArray, .none)
 | .range t x => (ev x).bind fun v => zcq P H nx t v
 | .next it s => (ev it).bind fun v => zeT H v s
 | .entry it => (ev it).bind fun v => (zct H v).map (·, .none)
 | .makeMap t r => (z3Y ev r).bind fun a => z6q P nx t a
 | .lookup t x i ok => (ev x).bind fun v => (ev i).bind fun j => (z5E P H t v j ok).map (·, .none)
 | .mapUpdate t m k x | .insert t m k x => (ev m).bind fun a => (ev k).bind fun b => (ev x).bind fun c => (z0k P H t a b c).map (undef, ·)
 | .mapEntry t m k => (ev m).bind fun a => (ev k).bind fun b => z6P P H t a b
 | .entryStore _ m s x => (ev m).bind fun a => (ev s).bind fun b => (ev x).bind fun c => (z4V H a b c).map (undef, ·)
 | .makeSlice t l c => (ev l).bind fun a => (ev c).bind fun b => z2T P nx t a b
 | .slice t x lo hi mx => (ev x).bind fun v => (z3Y ev lo).bind fun a => (z3Y ev hi).bind fun b => (z3Y ev mx).bind fun c => (z4Z P H t v a b c).map (·, .none)
 | .fieldAddr s x f => (ev x).bind fun v => (z3r P s v f).map (·, .none)
 | .field t x f => (ev x).bind fun v => (zcs P t v f).map (·, .none)
 | .indexAddr t x i => (ev x).bind fun v => (ev i).bind fun j => (z3q P t v j).map (·, .none)
 | .index t x i => (ev x).bind fun v => (ev i).bind fun j => (zcr P t v j).map (·, .none)
 | .extract x i => (ev x).bind fun v => (z6r v i).map (·, .none)
 | .call c =>
  match c.callee with
  | .builtin b => (z1k ev c.args.toList).bind fun l => z1o P H nx b c.argTypes l
  | _ => none
 | _ => none
def zfz (W0 : World) (C : Corr) (nx : Nat) (H : Heap) (r : Result Next) (v : Value) (e : Eff) : Prop :=
 ∃ n v' w' C', r = .ok n w' ∧ (n = .value v' ∨ (n = .skip ∧ v' = undef)) ∧ Rel W0 C' (e.nx nx) (e.H nx H) w' ∧ Stp nx H C (e.nx nx) (e.H nx H) C' ∧ VR (e.nx nx) (e.H nx H) C' v v'
theorem Snd.toN {s : Sem Value} {v : Value} {e : Eff} (h : Snd W0 C nx H (s.run P w) v e) : zfz W0 C nx H ((do pure (Next.value (← s)) : Sem Next).run P w) v e := by
 obtain ⟨v', w', C', h1, h2⟩ := h;refine ⟨.value v', v', w', C', ?_, .inl rfl, h2⟩;simp only [Sem.run_bind, h1, Result.andThen_ok, Sem.run_pure]
theorem z3z : VR nx H C undef undef := .tuple _ _ rfl (fun i h => absurd h (by simp))
theorem z5k {ev : Operand → Option Value} {ρ : Operand → Value} (hev : ∀ x v, ev x = some v → VR nx H C v (ρ x)) : ∀ (l : List (Nat × Operand)) (r : List (Nat × Value)), zQ ev l = some r → PRs nx H C r (l.map fun (i, x) => (i, ρ x)) := by
 intro l
 induction l with
 | nil => intro r h; simp only [zQ, Option.some.injEq] at h; subst h; trivial
 | cons x l ih =>
  obtain ⟨i, x⟩ := x;intro r h;simp only [zQ] at h;split at h
  ·rename_i v l' hv hl;simp only [Option.some.injEq] at h;subst h;exact ⟨rfl, hev x v hv, ih l' hl⟩
  ·cases h
theorem z34 {ev : Operand → Option Value} {ρ : Operand → Value} (hev : ∀ x v, ev x = some v → VR nx H C v (ρ x)) : ∀ (l : List Operand) (r : List Value), z1k ev l = some r → VRs nx H C r (l.map ρ) := by
 intro l
 induction l with
 | nil => intro r h; simp only [z1k, Option.some.injEq] at h; subst h; exact VRs.nil
 | cons x l ih =>
  intro r h;simp only [z1k] at h;split at h
  ·rename_i v l' hv hl;simp only [Option.some.injEq] at h;subst h;exact VRs.cons (hev x v hv) (ih l' hl)
  ·cases h
theorem z3E {ev : Operand → Option Value} {ρ : Operand → Value} (hev : ∀ x v, ev x = some v → VR nx H C v (ρ x)) {o : Option Operand} {r : Option Value} (h : z3Y ev o = some r) : OVR nx H C r (o.map ρ) := by
 cases o with
 | none => simp only [z3Y, Option.some.injEq] at h; subst h; trivial
 | some x =>
  simp only [z3Y, Option.map_eq_some_iff] at h;obtain ⟨v, hv, rfl⟩ := h;exact hev x v hv
theorem z7s (hR : Rel W0 C nx H w) {b : Builtin} {argTypes : Array TypeId} {ty : TypeId} {consts : Array Bool} {args args' : List Value} {v : Value} {e : Eff} (h : z1o P H nx b argTypes args = some (v, e)) (ha : VRs nx H C args args') :
  zfz W0 C nx H ((builtin b argTypes ty consts args'.toArray).run P w) v e := by
 unfold z1o at h;split at h
 ·obtain ⟨s', r, rfl, hs, hr⟩ := ha.uncons;obtain ⟨x', r2, rfl, hx, hr2⟩ := hr.uncons;have : r2 = [] := by rw [← List.length_eq_zero_iff, ← hr2.1]; rfl
  subst this;split at h
  ·rename_i r0 hr0;simp only [Option.some.injEq] at h;subst h;exact (z8w hR hr0 hs hx).toN
  ·exact (z7t hR h hs hx).toN
 ·obtain ⟨x', r, rfl, hx, hr⟩ := ha.uncons;have : r = [] := by rw [← List.length_eq_zero_iff, ← hr.1]; rfl
  subst this;simp only [Option.map_eq_some_iff, Prod.mk.injEq] at h;obtain ⟨v, h, rfl, rfl⟩ := h;exact (zbN hR h hx).toN
 ·obtain ⟨x', r, rfl, hx, hr⟩ := ha.uncons;have : r = [] := by rw [← List.length_eq_zero_iff, ← hr.1]; rfl
  subst this;split at h
  ·rename_i e0 he0;simp only [Option.some.injEq, Prod.mk.injEq] at h;obtain ⟨rfl, rfl⟩ := h;exact (z9K hR he0 hx).toN
  ·simp only [Option.map_eq_some_iff, Prod.mk.injEq] at h;obtain ⟨v, h, rfl, rfl⟩ := h;exact (z8v hR h hx).toN
 ·obtain ⟨x', r, rfl, hx, hr⟩ := ha.uncons;have : r = [] := by rw [← List.length_eq_zero_iff, ← hr.1]; rfl
  subst this;simp only [Option.map_eq_some_iff, Prod.mk.injEq] at h;obtain ⟨v, h, rfl, rfl⟩ := h;exact (zbO hR h hx).toN
 ·cases h
theorem z9g (hR : Rel W0 C nx H w) {ev : Operand → Option Value} {ρ : Operand → Value} (hev : ∀ x v, ev x = some v → VR nx H C v (ρ x)) {o : Oper} {v : Value} {e : Eff} (h : aop P H nx ev o = some (v, e)) :
  zfz W0 C nx H ((execOp ρ o).run P w) v e := by
 unfold aop at h;unfold execOp;cases ho : o.op <;> simp only [ho] at h ⊢ <;> try (cases h; done)
 case move x | assign x =>
  simp only [Option.map_eq_some_iff, Prod.mk.injEq] at h;obtain ⟨v, hv, rfl, rfl⟩ := h;exact ⟨.value (ρ x), ρ x, w, C, rfl, .inl rfl, hR, Stp.refl _ _ _, hev x v hv⟩
 case pick c a b =>
  split at h
  ·rename_i hc;simp only [Option.map_eq_some_iff, Prod.mk.injEq] at h;obtain ⟨v, hv, rfl, rfl⟩ := h;have := hev c _ hc;generalize ρ c = cc at this;cases this;exact ⟨.value (ρ a), ρ a, w, C, by simp [asBool], .inl rfl, hR, Stp.refl _ _ _, hev a v hv⟩
  ·rename_i hc;simp only [Option.map_eq_some_iff, Prod.mk.injEq] at h;obtain ⟨v, hv, rfl, rfl⟩ := h;have := hev c _ hc;generalize ρ c = cc at this;cases this;exact ⟨.value (ρ b), ρ b, w, C, by simp [asBool], .inl rfl, hR, Stp.refl _ _ _, hev b v hv⟩
  ·cases h
 case alloc t => exact (z9M hR h).toN
 case box t x =>
  simp only [Option.map_eq_some_iff, Prod.mk.injEq] at h;obtain ⟨v, hv, rfl, rfl⟩ := h;exact (z9o hR (hev x v hv) t).toN
 case build t parts =>
  simp only [Option.bind_eq_some_iff, Option.map_eq_some_iff, Prod.mk.injEq] at h;obtain ⟨l, hl, v, hv, rfl, rfl⟩ := h;have hp := z5k hev _ _ hl;exact (z9L hR hv (by simpa using hp)).toN
 case buildSlice t len parts =>
  simp only [Option.bind_eq_some_iff] at h;obtain ⟨l, hl, h⟩ := h;have hp := z5k hev _ _ hl;exact (z5L hR h (by simpa using hp)).toN
 case load t a =>
  simp only [Option.bind_eq_some_iff, Option.map_eq_some_iff, Prod.mk.injEq] at h;obtain ⟨x, hx, v, hv, rfl, rfl⟩ := h;exact (zay hR hv (hev a x hx)).toN
 case store t a x =>
  simp only [Option.bind_eq_some_iff, Option.map_eq_some_iff, Prod.mk.injEq] at h;obtain ⟨p, hp, u, hu, e', he, rfl, rfl⟩ := h;obtain ⟨w', e1, e2, e3⟩ := z9D (P := P) hR he (hev a p hp) (hev x u hu);exact ⟨.skip, undef, w', C, by simp only [Sem.run_bind, e1, Result.andThen_ok, Sem.run_pure], .inr ⟨rfl, rfl⟩, e2, e3, z3z⟩
 case nilCheck x =>
  split at h
  ·rename_i a hx;simp only [Option.some.injEq, Prod.mk.injEq] at h;obtain ⟨rfl, rfl⟩ := h;have := hev x _ hx;generalize ρ x = xx at this;cases this with
   | ptr _ b k1 k2 => exact ⟨.value (.pointer (some b)), .pointer (some b), w, C, rfl, .inl rfl, hR, Stp.refl _ _ _, .ptr _ _ k1 k2⟩
  ·rename_i f a b hx;simp only [Option.some.injEq, Prod.mk.injEq] at h;obtain ⟨rfl, rfl⟩ := h;have := hev x _ hx;generalize ρ x = xx at this;cases this with
   | func _ _ a' _ b' q1 q2 q3 q4 => exact ⟨_, _, w, C, rfl, .inl rfl, hR, Stp.refl _ _ _, .func _ _ _ _ _ q1 q2 q3 q4⟩
  ·cases h
 case binOp op t x y yt =>
  simp only [Option.bind_eq_some_iff, Option.map_eq_some_iff, Prod.mk.injEq] at h;obtain ⟨a, ha, b, hb, v, hv, rfl, rfl⟩ := h;exact (zbP hR hv (hev x a ha) (hev y b hb)).toN
 case unOp op t x =>
  simp only [Option.bind_eq_some_iff, Option.map_eq_some_iff, Prod.mk.injEq] at h;obtain ⟨a, ha, v, hv, rfl, rfl⟩ := h;exact (zda hR hv (hev x a ha)).toN
 case convert src dst x =>
  simp only [Option.bind_eq_some_iff] at h;obtain ⟨a, ha, h⟩ := h;split at h
  ·rename_i r hr;simp only [Option.some.injEq] at h;subst h;exact (z7q hR hr (hev x a ha)).toN
  ·split at h
   ·rename_i r hr;simp only [Option.some.injEq, Prod.mk.injEq] at h;obtain ⟨rfl, rfl⟩ := h;exact (z7r hR hr (hev x a ha)).toN
   ·simp only [Option.map_eq_some_iff, Prod.mk.injEq] at h;obtain ⟨v, hv, rfl, rfl⟩ := h;exact (z8u hR hv (hev x a ha)).toN
 case makeFunc fn first captured =>
  simp only [Option.bind_eq_some_iff, Option.map_eq_some_iff, Prod.mk.injEq] at h;obtain ⟨a, ha, b, hb, rfl, rfl⟩ := h;refine ⟨.value (.func fn (first.map ρ) (captured.map ρ)), _, w, C, rfl, .inl rfl, hR, Stp.refl _ _ _, ?_⟩;have h1 := z34 hev _ _ ha;have h2 := z34 hev _ _ hb;have := h1.func (fn := fn) h2;have e1 : (first.toList.map ρ).toArray = first.map ρ := by apply Array.ext'; simp
  have e2 : (captured.toList.map ρ).toArray = captured.map ρ := by apply Array.ext'; simp
  rw [e1, e2] at this;exact this
 case range t x =>
  simp only [Option.bind_eq_some_iff] at h;obtain ⟨a, ha, h⟩ := h;exact (z9G hR h (hev x a ha)).toN
 case next it s =>
  simp only [Option.bind_eq_some_iff] at h;obtain ⟨a, ha, h⟩ := h;exact (zax hR h (hev it a ha)).toN
 case entry it =>
  simp only [Option.bind_eq_some_iff, Option.map_eq_some_iff, Prod.mk.injEq] at h;obtain ⟨a, ha, u, hu, rfl, rfl⟩ := h;exact (z9J hR hu (hev it a ha)).toN
 case makeMap t r =>
  simp only [Option.bind_eq_some_iff] at h;obtain ⟨a, ha, h⟩ := h;exact (z7o hR h (z3E hev ha)).toN
 case lookup t x i ok =>
  simp only [Option.bind_eq_some_iff, Option.map_eq_some_iff, Prod.mk.injEq] at h;obtain ⟨a, ha, b, hb, v, hv, rfl, rfl⟩ := h;exact (z8t hR hv (hev x a ha) (hev i b hb)).toN
 case mapUpdate t m k x =>
  simp only [Option.bind_eq_some_iff, Option.map_eq_some_iff, Prod.mk.injEq] at h;obtain ⟨a, ha, b, hb, c, hc, ef, he, rfl, rfl⟩ := h;obtain ⟨w', h1, h2, h3⟩ := z3T hR he (hev m a ha) (hev k b hb) (hev x c hc);exact ⟨.skip, undef, w', C, by simp only [Sem.run_bind, h1, Result.andThen_ok, Sem.run_pure], .inr ⟨rfl, rfl⟩, h2, h3, z3z⟩
 case insert t m k x =>
  simp only [Option.bind_eq_some_iff, Option.map_eq_some_iff, Prod.mk.injEq] at h;obtain ⟨a, ha, b, hb, c, hc, ef, he, rfl, rfl⟩ := h;obtain ⟨w', h1, h2, h3⟩ := z3T hR he (hev m a ha) (hev k b hb) (hev x c hc);exact ⟨.skip, undef, w', C, by simp only [Sem.run_bind, h1, Result.andThen_ok, Sem.run_pure], .inr ⟨rfl, rfl⟩, h2, h3, z3z⟩
 case mapEntry t m k =>
  simp only [Option.bind_eq_some_iff] at h;obtain ⟨a, ha, b, hb, h⟩ := h;exact (z78 hR h (hev m a ha) (hev k b hb)).toN
 case entryStore t m s x =>
  simp only [Option.bind_eq_some_iff, Option.map_eq_some_iff, Prod.mk.injEq] at h;obtain ⟨a, ha, b, hb, c, hc, ef, he, rfl, rfl⟩ := h;obtain ⟨w', h1, h2, h3⟩ := z5K (P := P) (t := t) hR he (hev m a ha) (hev s b hb) (hev x c hc);exact ⟨.skip, undef, w', C, by simp only [Sem.run_bind, h1, Result.andThen_ok, Sem.run_pure], .inr ⟨rfl, rfl⟩, h2, h3, z3z⟩
 case makeSlice t l c =>
  simp only [Option.bind_eq_some_iff] at h;obtain ⟨a, ha, b, hb, h⟩ := h;exact (z6b hR h (hev l a ha) (hev c b hb)).toN
 case slice t x lo hi mx =>
  simp only [Option.bind_eq_some_iff, Option.map_eq_some_iff, Prod.mk.injEq] at h;obtain ⟨p, hp, a, ha, b, hb, c, hc, v, hv, rfl, rfl⟩ := h;exact (z9E hR hv (hev x p hp) (z3E hev ha) (z3E hev hb) (z3E hev hc)).toN
 case fieldAddr s x f =>
  simp only [Option.bind_eq_some_iff, Option.map_eq_some_iff, Prod.mk.injEq] at h;obtain ⟨p, hp, v, hv, rfl, rfl⟩ := h;exact (z6d hR hv (hev x p hp)).toN
 case field t x f =>
  simp only [Option.bind_eq_some_iff, Option.map_eq_some_iff, Prod.mk.injEq] at h;obtain ⟨p, hp, v, hv, rfl, rfl⟩ := h;exact (z9I hR hv (hev x p hp)).toN
 case indexAddr t x i =>
  simp only [Option.bind_eq_some_iff, Option.map_eq_some_iff, Prod.mk.injEq] at h;obtain ⟨p, hp, q, hq, v, hv, rfl, rfl⟩ := h;exact (z6c hR hv (hev x p hp) (hev i q hq)).toN
 case index t x i =>
  simp only [Option.bind_eq_some_iff, Option.map_eq_some_iff, Prod.mk.injEq] at h;obtain ⟨p, hp, q, hq, v, hv, rfl, rfl⟩ := h;exact (z9H hR hv (hev x p hp) (hev i q hq)).toN
 case extract x i =>
  simp only [Option.bind_eq_some_iff, Option.map_eq_some_iff, Prod.mk.injEq] at h;obtain ⟨p, hp, v, hv, rfl, rfl⟩ := h;exact (z7p hR hv (hev x p hp)).toN
 case call c =>
  cases hc : c.callee <;> simp only [hc] at h <;> try (cases h; done)
  rename_i b;simp only [Option.bind_eq_some_iff] at h;obtain ⟨l, hl, h⟩ := h;have ha := z34 hev _ _ hl;have := z7s (P := P) (ty := o.type) (consts := c.args.map fun | .const _ => true | _ => false) hR h ha;simp only [resolve, hc, Sem.run_bind, Sem.run_pure, Result.andThen_ok, invoke];have e : (c.args.toList.map ρ).toArray = c.args.map ρ := by apply Array.ext'; simp
  rw [e] at this;exact this
end
end Go.Am

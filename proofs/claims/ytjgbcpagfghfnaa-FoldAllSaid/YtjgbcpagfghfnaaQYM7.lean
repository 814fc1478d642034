import Derived.Test.YtjgbcpagfghfnaaQYM6
set_option linter.unusedVariables false
set_option linter.unusedSimpArgs false
set_option linter.unnecessarySimpa false
namespace Go.Am
open Go.RowKit
section
variable {P : Program} {W0 : World} {C : Corr} {nx : Nat} {H : Heap} {w : World}
def z1m (P : Program) : Nat → TypeId → Value → Bool
 | 0, _, _ => false
 | d + 1, t, v =>
  match P.underlying t with
  | none => false
  | some u =>
   match u, v with
   | .interface _, _ => false
   | .array len elem, .agg cs =>
    match z1W P elem with
    | some n => (List.range len).all fun i => match z2H P elem cs.toList (i * n) with | some p => z1m P d elem p | none => false
    | none => false
   | .struct fs, .agg cs => fs.toList.all fun f => decide (f.name = "_") || (match z2H P f.type cs.toList f.offset with | some p => z1m P d f.type p | none => false)
   | .array _ _, _ => false
   | .struct _, _ => false
   | _, _ => true
theorem z4K {α : Type} (g : α → PUnit → Sem (ForInStep PUnit)) : ∀ (l : List α), (∀ x ∈ l, ∀ w, (g x ⟨⟩).run P w = .ok (.yield ⟨⟩) w) → ∀ w, (forIn l PUnit.unit g).run P w = .ok ⟨⟩ w := by
 intro l
 induction l with
 | nil => intro _ w; simp
 | cons x l ih =>
  intro h w;simp only [List.forIn_cons, Sem.run_bind, h x (List.mem_cons_self ..), Result.andThen_ok];exact ih (fun y hy => h y (List.mem_cons_of_mem _ hy)) w
theorem z36 : ∀ (d d' : Nat) (t : TypeId) (v v' : Value) (e : Bool), d ≤ d' → z1m P d t v = true → VR nx H C v v' → ∀ w, (Instr.checkKey e d' t v').run P w = .ok () w := by
 intro d
 induction d with
 | zero => intro d' t v v' e _ h; simp [z1m] at h
 | succ d ih =>
  intro d' t v v' e hd h hv w;obtain ⟨d', rfl⟩ : ∃ k, d' = k + 1 := ⟨d' - 1, by omega⟩;simp only [z1m] at h;split at h
  ·cases h
  ·rename_i u hu;split at h
   ·cases h
   ·rename_i len elem cs;split at h
    ·rename_i n hn;cases hv with
     | agg _ cs' ha h1 =>
     simp only [Instr.checkKey, Sem.run_bind, run_underlying hu, Result.andThen_ok];simp only [Std.Legacy.Range.forIn_eq_forIn_range', Std.Legacy.Range.size, Nat.sub_zero, Nat.add_one_sub_one, Nat.div_one, ← List.range_eq_range'];rw [z4K]
     ·rfl
     ·intro i hi w;rw [List.all_eq_true] at h;have := h i hi;split at this
      ·rename_i p hp;obtain ⟨p', ep, vp⟩ := z0S hp (z3y ha h1);simp only [Array.toArray_toList] at ep;simp only [Sem.run_bind, z03 hn, Result.andThen_ok, ep, ih d' elem p p' e (by omega) this vp, Sem.run_pure]
      ·cases this
    ·cases h
   ·rename_i fs cs;cases hv with
    | agg _ cs' ha h1 =>
    simp only [Instr.checkKey, Sem.run_bind, run_underlying hu, Result.andThen_ok];rw [← Array.forIn_toList, z4K]
    ·rfl
    ·intro f hf w;rw [List.all_eq_true] at h;have := h f hf;by_cases hn : f.name = "_"
     ·simp [hn]
     ·simp only [hn, decide_false, Bool.false_or] at this;split at this
      ·rename_i p hp;obtain ⟨p', ep, vp⟩ := z0S hp (z3y ha h1);simp only [Array.toArray_toList] at ep;simp only [hn, ne_eq, not_false_eq_true, if_true, Sem.run_bind, ep, Result.andThen_ok, ih d' f.type p p' e (by omega) this vp, Sem.run_pure]
      ·cases this
   ·cases h
   ·cases h
   ·rename_i h1 h2 h3 h4 h5;simp only [Instr.checkKey, Sem.run_bind, run_underlying hu, Result.andThen_ok];cases u <;> first | rfl | (exfalso; first | exact h1 _ rfl | exact h2 _ _ rfl | exact h3 _ rfl | exact h4 _ _ rfl | exact h5 _ rfl | exact h4 _ rfl)
def zeq : Value → Bool
 | .bool _ | .int _ _ | .string _ => true
 | _ => false
def z2t : Value → Bool
 | .agg cs => cs.toList.all zeq
 | v => zeq v
theorem zf1 {v v' : Value} (h : zeq v = true) (hv : VR nx H C v v') : v' = v := by cases hv <;> first | rfl | (simp [zeq] at h)
theorem zdK {l l' : List Value} (h : l.all zeq = true) (hv : VRs nx H C l l') : l' = l := by
 apply List.ext_getElem hv.1.symm;intro i p q;exact zf1 (List.all_eq_true.1 h _ (List.getElem_mem q)) (hv.2 i q p)
theorem z32 {v v' : Value} (h : z2t v = true) (hv : VR nx H C v v') : v' = v := by
 cases hv with
 | agg a a' ha h1 =>
  have := zdK (by simpa [z2t] using h) (z3y ha h1);congr 1;exact Array.toList_inj.1 this
 | _ => first | rfl | (simp [z2t, zeq] at h)
theorem z8X (n : Nat) {v : Value} (h : zeq v = true) : Instr.sameBits n v v = true := by
 cases v <;> first | (simp [zeq] at h; done) | (cases n <;> simp [Instr.sameBits, z4v, sEq])
theorem z5i (n : Nat) {v : Value} (h : z2t v = true) : Instr.sameBits (n + 1) v v = true := by
 cases v with
 | agg cs =>
  simp only [Instr.sameBits, beq_self_eq_true, Bool.true_and, List.all_eq_true];rintro ⟨x, y⟩ hxy
  have hxy' : x = y := by
   rw [List.zip_eq_zipWith] at hxy;obtain ⟨i, h1, h2⟩ := List.getElem_of_mem hxy;simp at h2;exact h2.1.symm.trans h2.2
  subst hxy';have hm : x ∈ cs.toList := (List.of_mem_zip hxy).1;exact z8X n (List.all_eq_true.1 (by simpa [z2t] using h) x hm)
 | _ => exact z8X (n + 1) (by simpa [z2t] using h)
def zeR (H : Heap) : Value → Bool
 | .pointer (some a) => match H a.block with | some o => decide (o.tag = a.spot) | none => false
 | _ => false
def za3 (H : Heap) (k : Value) : Bool := z2t k || zeR H k
theorem zbA {k v v' : Value} (h : za3 H k = true) (hv : VR nx H C k v) (hv' : VR nx H C k v') : v = v' := by
 unfold za3 at h;rw [Bool.or_eq_true] at h;rcases h with h | h
 ·rw [z32 h hv, z32 h hv']
 ·unfold zeR at h;split at h
  ·rename_i a;split at h
   ·rename_i o ho;have ht : o.tag = a.spot := by simpa using h
    cases hv with
    | ptr _ b h1 h2 =>
    cases hv' with
    | ptr _ b' k1 k2 =>
    rw [h2 ⟨o, ho, ht⟩, k2 ⟨o, ho, ht⟩]
   ·cases h
  ·cases h
theorem zbB (n : Nat) {k v : Value} (h : za3 H k = true) (hv : VR nx H C k v) : Instr.sameBits (n + 1) v v = true := by
 unfold za3 at h;rw [Bool.or_eq_true] at h;rcases h with h | h
 ·rw [z32 h hv]; exact z5i n h
 ·unfold zeR at h;split at h
  ·cases hv with
   | ptr _ b h1 h2 => simp [Instr.sameBits]
  ·cases h
def z3X (P : Program) (H : Heap) (kt : TypeId) (k : Value) : List (Value × Value) → Nat → Option (Option (Nat × Value))
 | [], _ => some none
 | (k', v) :: l, i =>
  match aEq P H 60 kt k k' with
  | some true => some (some (i, v))
  | some false => z3X P H kt k l (i + 1)
  | none => none
def ERs (nx : Nat) (H : Heap) (C : Corr) : List (Value × Value) → List MapEntry → Prop
 | [], [] => True
 | (k, v) :: l, e :: l' => VR nx H C k e.key ∧ VR nx H C v e.val ∧ ERs nx H C l l'
 | _, _ => False
def zh2 (nx : Nat) (H : Heap) (C : Corr) : Option (Nat × Value) → Option (Nat × Value) → Prop
 | none, none => True
 | some (j, v), some (j', v') => j = j' ∧ VR nx H C v v'
 | _, _ => False
def zbn : TypeDesc → Bool
 | .int _ | .string | .bool => true
 | _ => false
theorem z69 (hR : Rel W0 C nx H w) {kt : TypeId} {k k' : Value} (hk : VR nx H C k k') : ∀ (l : List (Value × Value)) (l' : List MapEntry) (i : Nat) (r : Option (Nat × Value)), z3X P H kt k l i = some r → ERs nx H C l l' →
  ∃ r', (Instr.findAsking kt k' l' i).run P w = .ok r' w ∧ zh2 nx H C r r' := by
 intro l
 induction l with
 | nil =>
  intro l' i r h he;cases l' with
  | nil => simp only [z3X, Option.some.injEq] at h; subst h; exact ⟨none, by simp [Instr.findAsking], trivial⟩
  | cons e l' => exact he.elim
 | cons x l ih =>
  obtain ⟨kx, vx⟩ := x;intro l' i r h he;cases l' with
  | nil => exact he.elim
  | cons e l' =>
   obtain ⟨h1, h2, h3⟩ := he;simp only [z3X] at h;split at h
   ·rename_i hq;simp only [Option.some.injEq] at h;subst h;have := z5e (P := P) (w := w) hR 60 10000 kt k kx k' e.key true (by omega) hq hk h1;exact ⟨some (i, e.val), by simp only [Instr.findAsking, Op.equal, Op.maxDepth, Sem.run_bind, this, Result.andThen_ok, if_true, Sem.run_pure], rfl, h2⟩
   ·rename_i hq;have := z5e (P := P) (w := w) hR 60 10000 kt k kx k' e.key false (by omega) hq hk h1;obtain ⟨r', e1, e2⟩ := ih l' (i + 1) r h h3;exact ⟨r', by simp only [Instr.findAsking, Op.equal, Op.maxDepth, Sem.run_bind, this, Result.andThen_ok, Bool.false_eq_true, if_false, e1], e2⟩
   ·cases h
theorem z4J {kt : TypeId} {u : TypeDesc} (hu : P.underlying kt = some u) {k kx k' kx' : Value} {b : Bool} {d : Nat} (h : aEq P H (d + 1) kt k kx = some b) (hk : VR nx H C k k') (hx : VR nx H C kx kx') (hn : zbn u = true) : Instr.sameNow u k' kx' = some b := by
 simp only [aEq, hu] at h;split at h <;> first | (simp [zbn] at hn; done) | skip
 ·cases hk; cases hx; simpa [Instr.sameNow] using h
 ·split at h
  ·rename_i he; subst he; cases hk; cases hx; simpa [Instr.sameNow] using h
  ·cases h
 ·cases hk; cases hx;simp only [Option.some.injEq] at h;simp [Instr.sameNow, z4v, h]
 ·cases h
theorem z8h {kt : TypeId} {u : TypeDesc} (hu : P.underlying kt = some u) (hn : zbn u = true) {k k' : Value} (hk : VR nx H C k k') : ∀ (l : List (Value × Value)) (l' : List MapEntry) (i : Nat) (r : Option (Nat × Value)), z3X P H kt k l i = some r → ERs nx H C l l' →
  ∃ r', Instr.findNow u k' l' i = some r' ∧ zh2 nx H C r r' := by
 intro l
 induction l with
 | nil =>
  intro l' i r h he;cases l' with
  | nil => simp only [z3X, Option.some.injEq] at h; subst h; exact ⟨none, by simp [Instr.findNow], trivial⟩
  | cons e l' => exact he.elim
 | cons x l ih =>
  obtain ⟨kx, vx⟩ := x;intro l' i r h he;cases l' with
  | nil => exact he.elim
  | cons e l' =>
   obtain ⟨h1, h2, h3⟩ := he;simp only [z3X] at h;split at h
   ·rename_i hq;simp only [Option.some.injEq] at h;subst h;exact ⟨some (i, e.val), by simp [Instr.findNow, z4J (d := 59) hu hq hk h1 hn], rfl, h2⟩
   ·rename_i hq;obtain ⟨r', e1, e2⟩ := ih l' (i + 1) r h h3;exact ⟨r', by simp [Instr.findNow, z4J (d := 59) hu hq hk h1 hn, e1], e2⟩
   ·cases h
theorem z9t {u : TypeDesc} (hn : zbn u = false) (k : Value) (e : MapEntry) (l : List MapEntry) (i : Nat) : Instr.findNow u k (e :: l) i = none := by
 simp only [Instr.findNow]
 have : Instr.sameNow u k e.key = none := by
  unfold Instr.sameNow;split <;> first | rfl | (simp [zbn] at hn)
 rw [this]
theorem z1w (hR : Rel W0 C nx H w) {kt : TypeId} {k k' : Value} (hk : VR nx H C k k') {l : List (Value × Value)} {l' : List MapEntry} {r : Option (Nat × Value)} (h : z3X P H kt k l 0 = some r) (he : ERs nx H C l l') {u : TypeDesc} (hu : P.underlying kt = some u) :
  ∃ r', (Instr.findKey kt k' l').run P w = .ok r' w ∧ zh2 nx H C r r' := by
 cases hn : zbn u with
 | true =>
  obtain ⟨r', e1, e2⟩ := z8h hu hn hk l l' 0 r h he;exact ⟨r', by simp only [Instr.findKey, Sem.run_bind, run_underlying hu, Result.andThen_ok, e1, Sem.run_pure], e2⟩
 | false =>
  cases l' with
  | nil =>
   cases l with
   | nil =>
    simp only [z3X, Option.some.injEq] at h;subst h;exact ⟨none, by simp [Instr.findKey, run_underlying hu, Instr.findNow], trivial⟩
   | cons x l => exact he.elim
  | cons e l' =>
   obtain ⟨r', e1, e2⟩ := z69 (w := w) hR hk l (e :: l') 0 r h he;exact ⟨r', by simp only [Instr.findKey, Sem.run_bind, run_underlying hu, Result.andThen_ok, z9t hn, e1], e2⟩
theorem z4m : ∀ {l : List (Value × Value)} {l' : List MapEntry}, l'.length = l.length → (∀ (i : Nat) (h : i < l.length) (h' : i < l'.length), VR nx H C l[i].1 l'[i].key ∧ VR nx H C l[i].2 l'[i].val) → ERs nx H C l l' := by
 intro l
 induction l with
 | nil => intro l' h _; have : l' = [] := List.length_eq_zero_iff.1 h; subst this; trivial
 | cons x l ih =>
  intro l' h h2;cases l' with
  | nil => simp at h
  | cons e l' =>
   have h0 := h2 0 (by simp) (by simp);exact ⟨h0.1, h0.2, ih (by simpa using h) (fun i a b => h2 (i + 1) (by simpa using a) (by simpa using b))⟩
def zeQ (H : Heap) (x : Value) : Option (List (Value × Value)) :=
 match x with
 | .map none => some []
 | .map (some r) =>
  match H r with
  | some (.map es _ _) => some es
  | _ => none
 | _ => none
def zce (P : Program) (t : TypeId) : Option Value :=
 match (P.info? t).bind (·.zero) with
 | some (.agg cs) => if cs.toList.all zK then some (.agg cs) else none
 | some z => if zK z then some z else none
 | none => none
theorem z8Y {t : TypeId} {z : Value} (h : zce P t = some z) : (∀ w, (zeroValue t).run P w = .ok z w) ∧ VR nx H C z z := by
 unfold zce at h;cases hi : P.info? t with
 | none => simp [hi] at h
 | some i =>
  cases hz : i.zero with
  | none => simp [hi, hz] at h
  | some u =>
   simp only [hi, hz, Option.bind_some] at h;have hrun : ∀ w, (zeroValue t).run P w = .ok u w := fun w => by simp [zeroValue, typeInfo, hi, hz]
   split at h
   ·rename_i cs hu;split at h
    ·rename_i hp;cases h;cases hu;refine ⟨hrun, ?_⟩;have := (z2f (nx := nx) (H := H) (C := C) hp).agg;simpa using this
    ·cases h
   ·rename_i hu;split at h
    ·rename_i hp;cases h;cases hu;exact ⟨hrun, z3j hp⟩
    ·cases h
   ·cases h
def z5E (P : Program) (H : Heap) (t : TypeId) (x k : Value) (ok : Bool) : Option Value :=
 match P.underlying t with
 | some (.map kt et) =>
  match zeQ H x, zce P et with
  | some es, some z =>
   if z1m P 60 kt k ∧ (P.underlying kt).isSome then
    match z3X P H kt k es 0 with
    | some (some (_, v)) => some (if ok then .tuple #[v, .bool true] else v)
    | some none => some (if ok then .tuple #[z, .bool false] else z)
    | none => none
   else none
  | _, _ => none
 | _ => none
theorem zcz {a a' : Value} {b : Bool} (h : VR nx H C a a') : VR nx H C (.tuple #[a, .bool b]) (.tuple #[a', .bool b]) := (VRs.cons h (VRs.cons (.bool b) VRs.nil)).tuple
theorem z8t (hR : Rel W0 C nx H w) {t : TypeId} {x x' k k' v : Value} {ok : Bool} (h : z5E P H t x k ok = some v) (hx : VR nx H C x x') (hk : VR nx H C k k') : Snd W0 C nx H ((Instr.lookup t x' k' ok).run P w) v .none := by
 unfold z5E at h;split at h
 case h_2 => cases h
 rename_i kt et hu;split at h
 case h_2 => cases h
 rename_i es z hes hz;split at h
 case isFalse => cases h
 rename_i hc;obtain ⟨hck, hkt⟩ := hc;obtain ⟨u, hku⟩ := Option.isSome_iff_exists.1 hkt;obtain ⟨zr, zv⟩ := z8Y (nx := nx) (H := H) (C := C) hz;have hcheck := fun e => z36 (P := P) 60 10000 kt k k' e (by omega) hck hk
 -- the entries
 have hent : ∃ es' : Array MapEntry, ERs nx H C es es'.toList ∧ (Instr.lookup t x' k' ok).run P w = ((do
   Instr.checkKey es'.isEmpty 10000 kt k'
   let (v, ok') ← match ← Instr.findKey kt k' es'.toList with
    | some (_, v) => pure (v, true)
    | none => pure (← zeroValue et, false)
   pure (if ok then .tuple #[v, .bool ok'] else v) : Sem Value)).run P w := by
  unfold zeQ at hes;split at hes
  ·cases hes;cases hx;refine ⟨#[], trivial, ?_⟩;simp only [Instr.lookup, Sem.run_bind, run_underlying hu, Result.andThen_ok, Sem.run_pure];rfl
  ·rename_i r;split at hes
   ·rename_i es0 bs clock hr;cases hes;cases hx with
    | map _ r' m1 m2 =>
    obtain rfl := m2 _ hr rfl;obtain ⟨es', e1, e2, e3, e4⟩ := hR.obj _ _ hr;refine ⟨es', z4m (by simpa using e2) (fun i a b => by simpa using e3 i a (by simpa using b)), ?_⟩;have hg : (getObj (C.loc r).1).run P w = .ok (.map es' clock) w := by simp [getObj, Sem.run, e1]
    simp only [Instr.lookup, Sem.run_bind, run_underlying hu, Result.andThen_ok, hg, Sem.run_pure];rfl
   ·cases hes
  ·cases hes
 obtain ⟨es', hers, hrun⟩ := hent;split at h
 ·rename_i j v0 hf;cases h;obtain ⟨r', e1, e2⟩ := z1w (w := w) hR hk hf hers hku;cases r' with
  | none => exact e2.elim
  | some jv =>
   obtain ⟨j', v'⟩ := jv;obtain ⟨_, hv⟩ := e2;refine Snd.same hR (v' := if ok then .tuple #[v', .bool true] else v') ?_ (by cases ok with | false => exact hv | true => exact zcz hv);rw [hrun];simp only [Sem.run_bind, hcheck, Result.andThen_ok, e1, Sem.run_pure]
 ·rename_i hf;cases h;obtain ⟨r', e1, e2⟩ := z1w (w := w) hR hk hf hers hku;cases r' with
  | some jv => exact e2.elim
  | none =>
   refine Snd.same hR (v' := if ok then .tuple #[z, .bool false] else z) ?_ (by cases ok with | false => exact zv | true => exact zcz zv);rw [hrun];simp only [Sem.run_bind, hcheck, Result.andThen_ok, e1, Sem.run_pure, zr]
 ·cases h
theorem z1Z (hR : Rel W0 C nx H w) {r : Nat} {es es1 : List (Value × Value)} {bs bs1 : List Nat} {clk : Nat} (hr : H r = some (.map es bs clk)) {es1' : Array MapEntry} {clock : Nat} (hb : es1'.toList.map (·.born) = bs1) (hs : es1'.size = es1.length)
  (hv : ∀ (i : Nat) (h : i < es1.length) (h' : i < es1'.size), VR nx H C es1[i].1 es1'[i].key ∧ VR nx H C es1[i].2 es1'[i].val) :
  ∃ w', (setObj (C.loc r).1 (.map es1' clock)).run P w = .ok () w' ∧ Rel W0 C nx (H.put r (.map es1 bs1 clock)) w' ∧ Stp nx H C nx (H.put r (.map es1 bs1 clock)) C := by
 obtain ⟨es', e1, _⟩ := hR.obj _ _ hr;have hlt := (hR.obj _ _ hr).blk;refine ⟨{ w with heap := w.heap.setIfInBounds (C.loc r).1 (.map es1' clock) }, by simp [setObj, Sem.run, e1], ?_⟩;have hown := hR.own _ _ hr rfl
 have hbel : BelD W0.heap.size W0 { w with heap := w.heap.setIfInBounds (C.loc r).1 (.map es1' clock) } := hR.below.trans ⟨rfl, rfl, rfl, by simp, fun k hk => by
  show (w.heap.setIfInBounds (C.loc r).1 (.map es1' clock))[k]? = _;rw [Array.getElem?_setIfInBounds_ne (by omega)], Nat.le_refl _⟩
 have hC : C.put r (C.loc r) (C.siz r) = C := by
  unfold Corr.put;cases C with
  | mk l s => congr 1 <;> (funext i; simp; intro h; rw [h])
 have key := hR.set (w' := { w with heap := w.heap.setIfInBounds (C.loc r).1 (.map es1' clock) }) r _ (.map es1 bs1 clock) (C.loc r) (C.siz r) hr rfl (Nat.le_refl _) (.inl ⟨rfl, rfl, rfl, rfl⟩) (.inl rfl) (fun _ => rfl) hbel
  (fun k _ hk => by
   show (w.heap.setIfInBounds (C.loc r).1 (.map es1' clock))[k]? = _;rw [Array.getElem?_setIfInBounds_ne (Ne.symm hk)]) ?_
 ·rw [hC] at key; exact key
 ·rintro C' rfl hst;rw [hC] at hst ⊢;refine ⟨es1', ?_, hs, fun i a b => ⟨(hv i a b).1.mono hst, (hv i a b).2.mono hst⟩, hb⟩;show (w.heap.setIfInBounds (C.loc r).1 (.map es1' clock))[(C.loc r).1]? = _;rw [Array.getElem?_setIfInBounds_self_of_lt hlt]
def z0k (P : Program) (H : Heap) (t : TypeId) (m k v : Value) : Option Eff :=
 match P.underlying t, m with
 | some (.map kt _), .map (some r) =>
  match H r with
  | some (.map es bs clk) =>
   if z1m P 60 kt k ∧ (P.underlying kt).isSome ∧ za3 H k then
    match z3X P H kt k es 0 with
    | some (some (i, _)) =>
     match es[i]? with
     | some (k0, _) => if veqk k0 k then some (.upd r (.map (es.set i (k, v)) bs clk)) else none
     | none => none
    | some none => some (.upd r (.map (es ++ [(k, v)]) (bs ++ [clk]) (clk + 1)))
    | none => none
   else none
  | _ => none
 | _, _ => none
where
 veqk : Value → Value → Bool
  | .agg a, .agg b => eqs a.toList b.toList
  | a, b => eq1 a b
 eqs : List Value → List Value → Bool
  | [], [] => true
  | a :: l, b :: l' => eq1 a b && eqs l l'
  | _, _ => false
 eq1 : Value → Value → Bool
  | .bool a, .bool b => a == b
  | .int k a, .int k' b => decide (k = k') && decide (a = b)
  | .string a, .string b => a.data.toList == b.data.toList
  | .pointer (some a), .pointer (some b) => Nat.beq a.block b.block && Nat.beq a.off b.off && decide (a.spot = b.spot)
  | _, _ => false
theorem zb4 {a b : Value} (h : z0k.eq1 a b = true) : a = b := by
 cases a <;> cases b <;> simp only [z0k.eq1, Bool.and_eq_true, decide_eq_true_eq, beq_iff_eq] at h <;> try (cases h; done)
 case bool => rw [h]
 case int => obtain ⟨rfl, rfl⟩ := h; rfl
 case string x y =>
  obtain ⟨⟨x⟩⟩ := x;obtain ⟨⟨y⟩⟩ := y;simp only at h;rw [h]
 case pointer x y =>
  cases x with
  | none => simp [z0k.eq1] at h
  | some x =>
   cases y with
   | none => simp [z0k.eq1] at h
   | some y =>
    simp only [z0k.eq1, Bool.and_eq_true, decide_eq_true_eq] at h;obtain ⟨x1, x2, x3⟩ := x;obtain ⟨y1, y2, y3⟩ := y;obtain ⟨⟨h1, h2⟩, h3⟩ := h;simp only at h1 h2 h3;rw [Nat.eq_of_beq_eq_true h1, Nat.eq_of_beq_eq_true h2, h3]
theorem ze6 : ∀ {a b : List Value}, z0k.eqs a b = true → a = b := by
 intro a
 induction a with
 | nil => intro b h; cases b with
  | nil => rfl
  | cons x y => simp [z0k.eqs] at h
 | cons x l ih =>
  intro b h;cases b with
  | nil => simp [z0k.eqs] at h
  | cons y l' =>
   simp only [z0k.eqs, Bool.and_eq_true] at h;rw [zb4 h.1, ih h.2]
theorem z8S {a b : Value} (h : z0k.veqk a b = true) : a = b := by
 unfold z0k.veqk at h;split at h
 ·rename_i x y; have := ze6 h; obtain ⟨x⟩ := x; obtain ⟨y⟩ := y; simp only at this; rw [this]
 ·exact zb4 h
theorem zat (a : Array MapEntry) (i : Nat) (k v : Value) : (a.modify i fun e => { e with key := k, val := v }).toList.map (·.born) = a.toList.map (·.born) := by
 apply List.ext_getElem
 ·simp
 ·intro j h1 h2;simp only [List.getElem_map, Array.getElem_toList, Array.getElem_modify];split <;> rfl
theorem z3T (hR : Rel W0 C nx H w) {t : TypeId} {m m' k k' v v' : Value} {e : Eff} (h : z0k P H t m k v = some e) (hm : VR nx H C m m') (hk : VR nx H C k k') (hv : VR nx H C v v') :
  ∃ w', (Instr.mapUpdate t m' k' v').run P w = .ok () w' ∧ Rel W0 C (e.nx nx) (e.H nx H) w' ∧ Stp nx H C (e.nx nx) (e.H nx H) C := by
 unfold z0k at h;split at h
 case h_2 => cases h
 rename_i kt et r hu;split at h
 case h_2 => cases h
 rename_i es bs clock hr;split at h
 case isFalse => cases h
 rename_i hc;obtain ⟨hck, hkt, hpk⟩ := hc;obtain ⟨u, hku⟩ := Option.isSome_iff_exists.1 hkt;have hcheck := z36 (P := P) 60 10000 kt k k' false (by omega) hck hk w;cases hm with
 | map _ r' m1 m2 =>
 obtain rfl := m2 _ hr rfl;obtain ⟨es', e1, e2, e3, e4⟩ := hR.obj _ _ hr;have hg : (getObj (C.loc r).1).run P w = .ok (.map es' clock) w := by simp [getObj, Sem.run, e1]
 have hers : ERs nx H C es es'.toList := z4m (by simpa using e2) (fun i a b => by simpa using e3 i a (by simpa using b));split at h
 ·rename_i i v0 hf;split at h
  ·rename_i k0 v1 hi;split at h
   ·rename_i heq;cases h;have hk0 := z8S heq;subst hk0;obtain ⟨r', f1, f2⟩ := z1w (w := w) hR hk hf hers hku;cases r' with
    | none => exact f2.elim
    | some jv =>
     obtain ⟨j', v2⟩ := jv;obtain ⟨rfl, _⟩ := f2;have hilt : i < es.length := (List.getElem?_eq_some_iff.1 hi).1;have hilt' : i < es'.size := by omega
     have hkey : es'[i].key = k' := by
      have := (e3 i hilt hilt').1;rw [show es[i].1 = k0 by have := (List.getElem?_eq_some_iff.1 hi).2; rw [this]] at this;exact zbA hpk this hk
     have hstays : ∀ w, (Instr.keyThatStays (((es'[i]?).map (·.key)).getD k') k').run P w = .ok k' w := by
      intro w;have : ((es'[i]?).map (·.key)).getD k' = k' := by simp [hilt', hkey]
      rw [this];simp [Instr.keyThatStays, zbB 9999 hpk hk]
     obtain ⟨w', g1, g2, g3⟩ := z1Z (P := P) hR hr (es1 := es.set i (k0, v)) (es1' := es'.modify i fun e => { e with key := k', val := v' }) (clock := clock) (bs1 := bs) (by rw [← e4, zat]) (by simp [e2]) (by
      intro j a b;simp only [List.length_set] at a;simp only [Array.size_modify] at b;by_cases c : i = j
      ·subst c;simp only [List.getElem_set_self, Array.getElem_modify, if_true];exact ⟨hk, hv⟩
      ·simp only [List.getElem_set_ne c, Array.getElem_modify, c, if_false];exact e3 j a b)
     refine ⟨w', ?_, g2, g3⟩;simp only [Instr.mapUpdate, Sem.run_bind, run_underlying hu, Result.andThen_ok, hg, hcheck, f1, hstays, g1]
   ·cases h
  ·cases h
 ·rename_i hf;cases h;obtain ⟨r', f1, f2⟩ := z1w (w := w) hR hk hf hers hku;cases r' with
  | some jv => exact f2.elim
  | none =>
   obtain ⟨w', g1, g2, g3⟩ := z1Z (P := P) hR hr (es1 := es ++ [(k, v)]) (es1' := es'.push { key := k', val := v', born := clock }) (clock := clock + 1) (bs1 := bs ++ [clock]) (by rw [← e4]; simp) (by simp [e2]) (by
    intro j a b;simp only [List.length_append, List.length_singleton] at a;simp only [Array.size_push] at b;by_cases c : j < es.length
    ·rw [List.getElem_append_left c, Array.getElem_push_lt (by omega)];exact e3 j c (by omega)
    ·have : j = es.length := by omega
     subst this
     have h2 : (es'.push { key := k', val := v', born := clock })[es.length]'(by simp; omega) = { key := k', val := v', born := clock } := by
      simp only [← e2, Array.getElem_push_eq]
     rw [h2];simp only [List.getElem_append_right (Nat.le_refl _), Nat.sub_self, List.getElem_cons_zero];exact ⟨hk, hv⟩)
   refine ⟨w', ?_, g2, g3⟩;simp only [Instr.mapUpdate, Sem.run_bind, run_underlying hu, Result.andThen_ok, hg, hcheck, f1, g1]
 ·cases h
def z6q (P : Program) (nx : Nat) (t : TypeId) (r : Option Value) : Option (Value × Eff) :=
 match r with
 | none => some (.map (some nx), .new (.map [] [] 0))
 | some (.int _ _) => match P.underlying t with | some (.map _ _) => some (.map (some nx), .new (.map [] [] 0)) | _ => none
 | some _ => none
theorem z7o (hR : Rel W0 C nx H w) {t : TypeId} {r r' : Option Value} {v : Value} {e : Eff} (h : z6q P nx t r = some (v, e)) (hr : OVR nx H C r r') : Snd W0 C nx H ((Instr.makeMap t r').run P w) v e := by
 have key : Snd W0 C nx H (.ok (.map (some w.heap.size)) (w.alloc (.map #[] 0))) (.map (some nx)) (.new (.map [] [] 0)) := by
  obtain ⟨h1, h2⟩ := hR.new (.map [] [] 0) (.map #[] 0) 0 0 (by simp [AObj.tag]) (by
   rintro C' rfl hst;refine ⟨#[], ?_, rfl, fun i a => absurd a (by simp), rfl⟩;simp only [Corr.put, if_true];exact heap_alloc_new w _)
  exact ⟨_, _, _, rfl, h1, h2, .map _ _ (by simp [Eff.nx]) (fun o _ _ => by simp [Corr.put])⟩
 unfold z6q at h;split at h
 ·cases h;cases r' with
  | some x => exact hr.elim
  | none =>
   have : (Instr.makeMap t none).run P w = .ok (.map (some w.heap.size)) (w.alloc (.map #[] 0)) := by simp [Instr.makeMap]
   rw [this]; exact key
 ·rename_i k n;split at h
  ·rename_i kt et hu;cases h;cases r' with
   | none => exact hr.elim
   | some x =>
    have hx : VR nx H C (.int k n) x := hr;cases hx;have : (Instr.makeMap t (some (.int k n))).run P w = .ok (.map (some w.heap.size)) (w.alloc (.map #[] 0)) := by simp [Instr.makeMap, run_underlying hu, asInt, asIntOf]
    rw [this]; exact key
  ·cases h
 ·cases h
end
end Go.Am

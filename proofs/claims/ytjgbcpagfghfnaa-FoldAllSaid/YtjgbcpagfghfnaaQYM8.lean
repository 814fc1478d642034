import Derived.Test.YtjgbcpagfghfnaaQYM7
set_option linter.unusedVariables false
set_option linter.unusedSimpArgs false
set_option linter.unnecessarySimpa false
namespace Go.Am
open Go.RowKit
section
variable {P : Program} {W0 : World} {C : Corr} {nx : Nat} {H : Heap} {w : World}
theorem VRs.func {fn : Fn} {a a' b b' : List Value} (ha : VRs nx H C a a') (hb : VRs nx H C b b') : VR nx H C (.func fn a.toArray b.toArray) (.func fn a'.toArray b'.toArray) :=
 .func fn _ _ _ _ (by simpa using ha.1) (by simpa using hb.1) (fun i h h' => by simpa using ha.2 i (by simpa using h) (by simpa using h')) (fun i h h' => by simpa using hb.2 i (by simpa using h) (by simpa using h'))
def zai (P : Program) (src dst : TypeId) (x : Value) : Option Value :=
 match P.underlying src, P.underlying dst, x with
 | some (.int _), some .string, .int _ n => some (.string (Utf8.encode n))
 | _, _, _ => none
theorem z8u (hR : Rel W0 C nx H w) {src dst : TypeId} {x x' v : Value} (h : zai P src dst x = some v) (hx : VR nx H C x x') : Snd W0 C nx H ((convert src dst x').run P w) v .none := by
 unfold zai at h;split at h
 ·rename_i hs hd;cases h;cases hx;refine Snd.same hR (v' := .string (Utf8.encode _)) ?_ (.string _);simp only [convert, Sem.run_bind, run_underlying hs, run_underlying hd, Result.andThen_ok, Conv.intToString, Sem.run_pure]
 ·cases h
def zcq (P : Program) (H : Heap) (nx : Nat) (t : TypeId) (x : Value) : Option (Value × Eff) :=
 match P.underlying t, x with
 | some .string, .string s => some (.pointer (some ⟨nx, 0, none⟩), .new (.siter s 0))
 | some (.map _ _), .map none => some (.pointer (some ⟨nx, 0, none⟩), .new (.miter none 0 [] 0))
 | some (.map _ _), .map (some r) =>
  match H r with
  | some (.map _ _ clk) => some (.pointer (some ⟨nx, 0, none⟩), .new (.miter (some r) clk [] clk))
  | _ => none
 | _, _ => none
theorem z9G (hR : Rel W0 C nx H w) {t : TypeId} {x x' v : Value} {e : Eff} (h : zcq P H nx t x = some (v, e)) (hx : VR nx H C x x') : Snd W0 C nx H ((Instr.range t x').run P w) v e := by
 unfold zcq at h;split at h
 ·rename_i s hu;cases h;cases hx
  have key : Snd W0 C nx H (.ok (.pointer (some ⟨w.heap.size, 0, none⟩)) (w.alloc (.stringIter s 0))) (.pointer (some ⟨nx, 0, none⟩)) (.new (.siter s 0)) := by
   obtain ⟨h1, h2⟩ := hR.new (.siter s 0) (.stringIter s 0) 0 0 (by simp [AObj.tag]) (by
    rintro C' rfl hst;refine ⟨?_, by simp [Corr.put]⟩;simp only [Corr.put, if_true];exact heap_alloc_new w _)
   refine ⟨_, _, _, rfl, h1, h2, .ptr _ _ ⟨?_, ?_⟩ ?_⟩
   ·show nx < nx + 1; omega
   ·intro t ht; cases ht
   ·intro _;simp [Corr.at, Corr.put]
  have : (Instr.range t (.string s)).run P w = .ok (.pointer (some ⟨w.heap.size, 0, none⟩)) (w.alloc (.stringIter s 0)) := by
   simp [Instr.range, run_underlying hu]
  rw [this]; exact key
 ·rename_i kt et hu;cases h;cases hx
  have key : Snd W0 C nx H (.ok (.pointer (some ⟨w.heap.size, 0, none⟩)) (w.alloc (.mapIter none 0 #[] 0))) (.pointer (some ⟨nx, 0, none⟩)) (.new (.miter none 0 [] 0)) := by
   obtain ⟨h1, h2⟩ := hR.new (.miter none 0 [] 0) (.mapIter none 0 #[] 0) 0 0 (by simp [AObj.tag]) (by
    rintro C' rfl hst;refine ⟨none, ?_, by simp [Corr.put], .nilm⟩;simp only [Corr.put, if_true];exact heap_alloc_new w _)
   exact ⟨_, _, _, rfl, h1, h2, .ptr _ _ ⟨Nat.lt_succ_self nx, fun t ht => by cases ht⟩ (fun _ => by simp [Corr.at, Corr.put])⟩
  have : (Instr.range t (.map none)).run P w = .ok (.pointer (some ⟨w.heap.size, 0, none⟩)) (w.alloc (.mapIter none 0 #[] 0)) := by
   simp [Instr.range, run_underlying hu]
  rw [this]; exact key
 ·rename_i kt et r hu;split at h
  case h_2 => cases h
  rename_i es bs clk hr;cases h;cases hx with
  | map _ r' m1 m2 =>
  obtain rfl := m2 _ hr rfl;obtain ⟨es', e1, e2, e3, e4⟩ := hR.obj _ _ hr
  have key : Snd W0 C nx H (.ok (.pointer (some ⟨w.heap.size, 0, none⟩)) (w.alloc (.mapIter (some (C.loc r).1) clk #[] clk))) (.pointer (some ⟨nx, 0, none⟩)) (.new (.miter (some r) clk [] clk)) := by
   obtain ⟨h1, h2⟩ := hR.new (.miter (some r) clk [] clk) (.mapIter (some (C.loc r).1) clk #[] clk) 0 0 (by simp [AObj.tag]) (by
    rintro C' rfl hst;refine ⟨_, ?_, by simp [Corr.put], (VR.map r _ m1 m2).mono hst⟩;simp only [Corr.put, if_true];exact heap_alloc_new w _)
   exact ⟨_, _, _, rfl, h1, h2, .ptr _ _ ⟨Nat.lt_succ_self nx, fun t ht => by cases ht⟩ (fun _ => by simp [Corr.at, Corr.put])⟩
  have : (Instr.range t (.map (some (C.loc r).1))).run P w = .ok (.pointer (some ⟨w.heap.size, 0, none⟩)) (w.alloc (.mapIter (some (C.loc r).1) clk #[] clk)) := by
   simp [Instr.range, run_underlying hu, getObj, Sem.run, e1]
  rw [this]; exact key
 ·cases h
def zeT (H : Heap) (it : Value) (isString : Bool) : Option (Value × Eff) :=
 match it, isString with
 | .pointer (some ⟨r, 0, none⟩), true =>
  match H r with
  | some (.siter s pos) =>
   if pos < s.size then
    let c := Utf8.decode s pos
    some (.tuple #[.bool true, goInt pos, .int .i32 c.1], .upd r (.siter s (pos + c.2)))
   else some (.tuple #[.bool false], .none)
  | _ => none
 | _, _ => none
theorem zax (hR : Rel W0 C nx H w) {it it' : Value} {b : Bool} {ty : TypeId} {v : Value} {e : Eff} (h : zeT H it b = some (v, e)) (hx : VR nx H C it it') : Snd W0 C nx H ((Instr.next it' b ty).run P w) v e := by
 unfold zeT at h;split at h
 case h_2 => cases h
 rename_i r;split at h
 case h_2 => cases h
 rename_i s pos hr;cases hx with
 | ptr _ a h1 h2 =>
 have ha : a = C.at ⟨r, 0, none⟩ := h2 ⟨_, hr, rfl⟩;obtain ⟨hobj, hz⟩ := hR.obj _ _ hr;have ha2 : a = ⟨(C.loc r).1, 0, none⟩ := by rw [ha]; simp [Corr.at, hz]
 subst ha2;have hg : (getObj (C.loc r).1).run P w = .ok (.stringIter s pos) w := by simp [getObj, Sem.run, hobj]
 split at h
 ·rename_i hp;cases h;have hlt := (Array.getElem?_eq_some_iff.1 hobj).1;have hown := hR.own _ _ hr rfl
  have hbel : BelD W0.heap.size W0 { w with heap := w.heap.setIfInBounds (C.loc r).1 (.stringIter s (pos + (Utf8.decode s pos).2)) } := hR.below.trans ⟨rfl, rfl, rfl, by simp, fun k hk => by
   show (w.heap.setIfInBounds (C.loc r).1 _)[k]? = _;rw [Array.getElem?_setIfInBounds_ne (by omega)], Nat.le_refl _⟩
  have hC : C.put r (C.loc r) (C.siz r) = C := by
   unfold Corr.put;cases C with
   | mk l s => congr 1 <;> (funext i; simp; intro h; rw [h])
  have key := hR.set (w' := { w with heap := w.heap.setIfInBounds (C.loc r).1 (.stringIter s (pos + (Utf8.decode s pos).2)) }) r _ (.siter s (pos + (Utf8.decode s pos).2)) (C.loc r) (C.siz r) hr rfl (Nat.le_refl _) (.inl ⟨rfl, rfl, rfl, rfl⟩) (.inl rfl) (fun _ => rfl) hbel
   (fun k _ hk => by
    show (w.heap.setIfInBounds (C.loc r).1 _)[k]? = _;rw [Array.getElem?_setIfInBounds_ne (Ne.symm hk)]) (by
    rintro C' rfl hst;rw [hC];refine ⟨?_, hz⟩;show (w.heap.setIfInBounds (C.loc r).1 _)[(C.loc r).1]? = _;rw [Array.getElem?_setIfInBounds_self_of_lt hlt])
  rw [hC] at key;refine ⟨_, _, C, ?_, key.1, key.2, (VRs.cons (.bool true) (VRs.cons (.int _ _) (VRs.cons (.int _ _) VRs.nil))).tuple⟩;simp only [Instr.next, Sem.run_bind, hg, Result.andThen_ok, hp, if_true, Sem.run_pure];simp [setObj, Sem.run, hobj];rfl
 ·rename_i hp;cases h;refine Snd.same hR (v' := .tuple #[.bool false]) ?_ (VRs.cons (.bool false) VRs.nil).tuple;simp only [Instr.next, Sem.run_bind, hg, Result.andThen_ok, hp, if_false, Sem.run_pure]
def EB (nx : Nat) (H : Heap) (C : Corr) : List ((Value × Value) × Nat) → List MapEntry → Prop
 | [], [] => True
 | x :: l, e :: l' => VR nx H C x.1.1 e.key ∧ VR nx H C x.1.2 e.val ∧ e.born = x.2 ∧ EB nx H C l l'
 | _, _ => False
theorem zaC : ∀ {es : List (Value × Value)} {bs : List Nat} {l' : List MapEntry}, l'.length = es.length → (∀ (i : Nat) (h : i < es.length) (h' : i < l'.length), VR nx H C es[i].1 l'[i].key ∧ VR nx H C es[i].2 l'[i].val) → l'.map (·.born) = bs → EB nx H C (es.zip bs) l' := by
 intro es
 induction es with
 | nil => intro bs l' h _ _; have : l' = [] := List.length_eq_zero_iff.1 h; subst this; exact trivial
 | cons x es ih =>
  intro bs l' h h2 h3;cases l' with
  | nil => simp at h
  | cons e l' =>
   subst h3;have h0 := h2 0 (by simp) (by simp);exact ⟨h0.1, h0.2, rfl, ih (by simpa using h) (fun i a b => h2 (i + 1) (by simpa using a) (by simpa using b)) rfl⟩
def zct (H : Heap) (it : Value) : Option Value :=
 match it with
 | .pointer (some ⟨r, 0, none⟩) =>
  match H r with
  | some (.miter (some m) _ seen stepped) =>
   match H m with
   | some (.map es bs clk) =>
    if clk = stepped then
     match seen.getLast? with
     | some stamp => ((es.zip bs).find? fun x => x.2 == stamp).map fun x => .tuple #[x.1.1, x.1.2]
     | none => none
    else none
   | _ => none
  | _ => none
 | _ => none
theorem EB.find (p : Nat → Bool) : ∀ {l : List ((Value × Value) × Nat)} {l' : List MapEntry} {x : (Value × Value) × Nat}, EB nx H C l l' → l.find? (fun x => p x.2) = some x → ∃ e, l'.find? (fun e => p e.born) = some e ∧ VR nx H C x.1.1 e.key ∧ VR nx H C x.1.2 e.val := by
 intro l
 induction l with
 | nil => intro l' x _ h; simp at h
 | cons y l ih =>
  intro l' x h hf;cases l' with
  | nil => exact h.elim
  | cons e l' =>
   obtain ⟨h1, h2, h3, h4⟩ := h;rw [List.find?_cons] at hf ⊢;rw [h3];split at hf
   ·rename_i hp;cases hf;exact ⟨e, rfl, h1, h2⟩
   ·rename_i hp;obtain ⟨e', a, b⟩ := ih h4 hf;exact ⟨e', a, b⟩
theorem z9J (hR : Rel W0 C nx H w) {it it' v : Value} (h : zct H it = some v) (hx : VR nx H C it it') : Snd W0 C nx H ((Instr.entry it').run P w) v .none := by
 unfold zct at h;split at h
 case h_2 => cases h
 rename_i r;split at h
 case h_2 => cases h
 rename_i m since seen stepped hr;split at h
 case h_2 => cases h
 rename_i es bs clk hm;split at h
 case isFalse => cases h
 rename_i hc;subst hc;split at h
 case h_2 => cases h
 rename_i stamp hs;rw [Option.map_eq_some_iff] at h;obtain ⟨x, hf, rfl⟩ := h;cases hx with
 | ptr _ a h1 h2 =>
 have ha : a = C.at ⟨r, 0, none⟩ := h2 ⟨_, hr, rfl⟩;obtain ⟨m', hobj, hz, hmv⟩ := hR.obj _ _ hr;have ha2 : a = ⟨(C.loc r).1, 0, none⟩ := by rw [ha]; simp [Corr.at, hz]
 subst ha2;cases hmv with
 | map _ r' q1 q2 =>
 obtain rfl := q2 _ hm rfl;obtain ⟨es', e1, e2, e3, e4⟩ := hR.obj _ _ hm;have hEB : EB nx H C (es.zip bs) es'.toList := zaC (by simpa using e2) (fun i a b => by simpa using e3 i a (by simpa using b)) e4;obtain ⟨e, f1, f2, f3⟩ := hEB.find (fun b => b == stamp) hf;have hg1 : (getObj (C.loc r).1).run P w = .ok (.mapIter (some (C.loc m).1) since seen.toArray clk) w := by simp [getObj, Sem.run, hobj]
 have hg2 : (getObj (C.loc m).1).run P w = .ok (.map es' clk) w := by simp [getObj, Sem.run, e1]
 have hb : seen.toArray.back? = some stamp := by simpa using hs
 have hf' : es'.find? (fun e => e.born == stamp) = some e := by rw [← Array.find?_toList]; exact f1
 refine Snd.same hR (v' := .tuple #[e.key, e.val]) ?_ (VRs.cons f2 (VRs.cons f3 VRs.nil)).tuple;simp only [Instr.entry, Sem.run_bind, hg1, Result.andThen_ok, hb, hg2, bne_self_eq_false, Bool.false_eq_true, if_false, hf', Sem.run_pure]
theorem zdb {kt : TypeId} {k : Value} : ∀ (l : List (Value × Value)) (i j : Nat) (v : Value), z3X P H kt k l i = some (some (j, v)) → (l[j - i]?).map (·.2) = some v ∧ i ≤ j := by
 intro l
 induction l with
 | nil => intro i j v h; simp [z3X] at h
 | cons x l ih =>
  intro i j v h;obtain ⟨kx, vx⟩ := x;simp only [z3X] at h;split at h
  ·cases h; simp
  ·obtain ⟨a, b⟩ := ih _ _ _ h;refine ⟨?_, by omega⟩;rw [show j - i = (j - (i + 1)) + 1 by omega];simpa using a
  ·cases h
def z6P (P : Program) (H : Heap) (t : TypeId) (m k : Value) : Option (Value × Eff) :=
 match P.underlying t, m with
 | some (.map kt et), .map (some r) =>
  match H r with
  | some (.map es bs clk) =>
   if z1m P 60 kt k ∧ (P.underlying kt).isSome ∧ z2t k then
    match z3X P H kt k es 0 with
    | some (some (i, _)) =>
     match es[i]?, bs[i]? with
     | some (k0, v0), some b => if z0k.veqk k0 k then some (.tuple #[v0, goInt b], .upd r (.map (es.set i (k, v0)) bs clk)) else none
     | _, _ => none
    | some none =>
     match zce P et with
     | some z => some (.tuple #[z, goInt clk], .upd r (.map (es ++ [(k, z)]) (bs ++ [clk]) (clk + 1)))
     | none => none
    | none => none
   else none
  | _ => none
 | _, _ => none
theorem z78 (hR : Rel W0 C nx H w) {t : TypeId} {m m' k k' v : Value} {e : Eff} (h : z6P P H t m k = some (v, e)) (hm : VR nx H C m m') (hk : VR nx H C k k') :
  Snd W0 C nx H ((Instr.mapEntry t m' k').run P w) v e := by
 unfold z6P at h;split at h
 case h_2 => cases h
 rename_i kt et r hu;split at h
 case h_2 => cases h
 rename_i es bs clock hr;split at h
 case isFalse => cases h
 rename_i hc;obtain ⟨hck, hkt, hpk⟩ := hc;obtain ⟨u, hku⟩ := Option.isSome_iff_exists.1 hkt;have hcheck := z36 (P := P) 60 10000 kt k k' false (by omega) hck hk w;cases hm with
 | map _ r' m1 m2 =>
 obtain rfl := m2 _ hr rfl;obtain ⟨es', e1, e2, e3, e4⟩ := hR.obj _ _ hr;have hg : (getObj (C.loc r).1).run P w = .ok (.map es' clock) w := by simp [getObj, Sem.run, e1]
 have hers : ERs nx H C es es'.toList := z4m (by simpa using e2) (fun i a b => by simpa using e3 i a (by simpa using b));have hkk := z32 hpk hk;subst hkk;split at h
 ·rename_i i v0 hf;split at h
  ·rename_i k0 v1 b hi hb;split at h
   ·rename_i heq;cases h;have hk0 := z8S heq;subst hk0;obtain ⟨r', f1, f2⟩ := z1w (w := w) hR hk hf hers hku;cases r' with
    | none => exact f2.elim
    | some jv =>
     obtain ⟨j', v2⟩ := jv;obtain ⟨rfl, hv2⟩ := f2;have hilt : i < es.length := (List.getElem?_eq_some_iff.1 hi).1;have hilt' : i < es'.size := by omega
     have hesi : es[i] = (k0, v1) := (List.getElem?_eq_some_iff.1 hi).2
     have hv01 : v0 = v1 := by
      have := (zdb _ _ _ _ hf).1;rw [show i - 0 = i by omega, hi] at this;simpa using this.symm
     subst hv01
     have hborn : es'[i].born = b := by
      rw [← e4] at hb;simpa [hilt'] using hb
     have hkey : es'[i].key = k0 := by
      have := (e3 i hilt hilt').1;rw [show es[i].1 = k0 by rw [hesi]] at this;exact z32 hpk this
     have hstays : ∀ w, (Instr.keyThatStays (((es'[i]?).map (·.key)).getD k0) k0).run P w = .ok k0 w := by
      intro w;have : ((es'[i]?).map (·.key)).getD k0 = k0 := by simp [hilt', hkey]
      rw [this];simp [Instr.keyThatStays, z5i 9999 hpk]
     obtain ⟨w', g1, g2, g3⟩ := z1Z (P := P) hR hr (es1 := es.set i (k0, v0)) (es1' := es'.modify i fun e => { e with key := k0 }) (clock := clock) (bs1 := bs) (by
      rw [← e4];apply List.ext_getElem
      ·simp
      ·intro j h1 h2;simp only [List.getElem_map, Array.getElem_toList, Array.getElem_modify];split <;> rfl) (by simp [e2]) (by
      intro j a b;simp only [List.length_set] at a;simp only [Array.size_modify] at b;by_cases c : i = j
      ·subst c;simp only [List.getElem_set_self, Array.getElem_modify, if_true];refine ⟨hk, ?_⟩;have := (e3 i a b).2;rw [hesi] at this;exact this
      ·simp only [List.getElem_set_ne c, Array.getElem_modify, c, if_false];exact e3 j a b)
     refine ⟨.tuple #[v2, goInt b], w', C, ?_, g2, g3, ((VRs.cons hv2 (VRs.cons (.int _ _) VRs.nil)).tuple).mono g3⟩;have hbg : ((es'[i]?).map (fun x => (x.born : Int))).getD 0 = (b : Int) := by simp [hilt', hborn]
     simp only [Instr.mapEntry, Sem.run_bind, run_underlying hu, Result.andThen_ok, hg, hcheck, f1, hstays, g1, Sem.run_pure, hbg]
   ·cases h
  ·cases h
 ·rename_i hf;split at h
  case h_2 => cases h
  rename_i z hz;cases h;obtain ⟨zr, zv⟩ := z8Y (nx := nx) (H := H) (C := C) hz;obtain ⟨r', f1, f2⟩ := z1w (w := w) hR hk hf hers hku;cases r' with
  | some jv => exact f2.elim
  | none =>
   obtain ⟨w', g1, g2, g3⟩ := z1Z (P := P) hR hr (es1 := es ++ [(k', z)]) (es1' := es'.push { key := k', val := z, born := clock }) (clock := clock + 1) (bs1 := bs ++ [clock]) (by rw [← e4]; simp) (by simp [e2]) (by
    intro j a b;simp only [List.length_append, List.length_singleton] at a;simp only [Array.size_push] at b;by_cases c : j < es.length
    ·rw [List.getElem_append_left c, Array.getElem_push_lt (by omega)];exact e3 j c (by omega)
    ·have : j = es.length := by omega
     subst this
     have h2 : (es'.push { key := k', val := z, born := clock })[es.length]'(by simp; omega) = { key := k', val := z, born := clock } := by
      simp only [← e2, Array.getElem_push_eq]
     rw [h2];simp only [List.getElem_append_right (Nat.le_refl _), Nat.sub_self, List.getElem_cons_zero];exact ⟨hk, zv⟩)
   refine ⟨.tuple #[z, goInt clock], w', C, ?_, g2, g3, ((VRs.cons zv (VRs.cons (.int _ _) VRs.nil)).tuple).mono g3⟩;simp only [Instr.mapEntry, Sem.run_bind, run_underlying hu, Result.andThen_ok, hg, hcheck, f1, zr, g1, Sem.run_pure]
 ·cases h
def z4V (H : Heap) (m stamp v : Value) : Option Eff :=
 match m, stamp with
 | .map (some r), .int _ n =>
  match H r with
  | some (.map es bs clk) =>
   match bs.findIdx? (fun (b : Nat) => decide ((b : Int) = n)) with
   | some i =>
    match es[i]? with
    | some (k, _) => some (.upd r (.map (es.set i (k, v)) bs clk))
    | none => none
   | none => none
  | _ => none
 | _, _ => none
theorem z5K (hR : Rel W0 C nx H w) {t : TypeId} {m m' s s' v v' : Value} {e : Eff} (h : z4V H m s v = some e) (hm : VR nx H C m m') (hs : VR nx H C s s') (hv : VR nx H C v v') :
  ∃ w', (Instr.entryStore t m' s' v').run P w = .ok () w' ∧ Rel W0 C (e.nx nx) (e.H nx H) w' ∧ Stp nx H C (e.nx nx) (e.H nx H) C := by
 unfold z4V at h;split at h
 case h_2 => cases h
 rename_i r kd n;split at h
 case h_2 => cases h
 rename_i es bs clock hr;split at h
 case h_2 => cases h
 rename_i i hi;split at h
 case h_2 => cases h
 rename_i k v0 hk;cases h;cases hs;cases hm with
 | map _ r' m1 m2 =>
 obtain rfl := m2 _ hr rfl;obtain ⟨es', e1, e2, e3, e4⟩ := hR.obj _ _ hr;have hg : (getObj (C.loc r).1).run P w = .ok (.map es' clock) w := by simp [getObj, Sem.run, e1]
 have hfi : es'.findIdx? (fun e => (e.born : Int) == n) = some i := by
  have ef : ∀ (p : MapEntry → Bool), es'.findIdx? p = es'.toList.findIdx? p := fun p => by cases es'; simp
  rw [ef];rw [← e4, List.findIdx?_map] at hi;rw [← hi]
  first | rfl | (congr 1; funext x; by_cases q : (x.born : Int) = n <;> simp [q])
 have hilt : i < es.length := (List.getElem?_eq_some_iff.1 hk).1;have hesi : es[i] = (k, v0) := (List.getElem?_eq_some_iff.1 hk).2
 obtain ⟨w', g1, g2, g3⟩ := z1Z (P := P) hR hr (es1 := es.set i (k, v)) (es1' := es'.modify i fun e => { e with val := v' }) (clock := clock) (bs1 := bs) (by
  rw [← e4];apply List.ext_getElem
  ·simp
  ·intro j h1 h2;simp only [List.getElem_map, Array.getElem_toList, Array.getElem_modify];split <;> rfl) (by simp [e2]) (by
  intro j a b;simp only [List.length_set] at a;simp only [Array.size_modify] at b;by_cases c : i = j
  ·subst c;simp only [List.getElem_set_self, Array.getElem_modify, if_true];refine ⟨?_, hv⟩;have := (e3 i a b).1;rw [hesi] at this;exact this
  ·simp only [List.getElem_set_ne c, Array.getElem_modify, c, if_false];exact e3 j a b)
 refine ⟨w', ?_, g2, g3⟩;simp only [Instr.entryStore, asInt, asIntOf, Sem.run_bind, Sem.run_pure, Result.andThen_ok, hg, hfi, g1]
theorem VRs.unit : VR nx H C (.tuple #[]) (.tuple #[]) := (VRs.nil (nx := nx) (H := H) (C := C)).tuple
def zcu (P : Program) (H : Heap) (ts : Array TypeId) (m : Value) : Option Eff :=
 match ts[0]?.bind P.underlying, m with
 | some (.map _ _), .map (some r) =>
  match H r with
  | some (.map _ _ clk) => some (.upd r (.map [] [] clk))
  | _ => none
 | some (.map _ _), .map none => some .none
 | _, _ => none
theorem z9K (hR : Rel W0 C nx H w) {ts : Array TypeId} {ty : TypeId} {m m' : Value} {e : Eff} (h : zcu P H ts m = some e) (hm : VR nx H C m m') :
  Snd W0 C nx H ((Builtin.clear_ ts ty #[m']).run P w) (.tuple #[]) e := by
 unfold zcu at h;split at h
 case h_3 => cases h
 ·rename_i kt et r hu;split at h
  case h_2 => cases h
  rename_i es bs clock hr;cases h;cases hm with
  | map _ r' m1 m2 =>
  obtain rfl := m2 _ hr rfl;obtain ⟨es', e1, e2, e3, e4⟩ := hR.obj _ _ hr;have hg : (getObj (C.loc r).1).run P w = .ok (.map es' clock) w := by simp [getObj, Sem.run, e1]
  cases h0 : ts[0]? with
  | none => simp [h0] at hu
  | some t0 =>
  simp only [h0, Option.bind_some] at hu;obtain ⟨w', g1, g2, g3⟩ := z1Z (P := P) hR hr (es1 := []) (es1' := #[]) (clock := clock) (bs1 := []) rfl rfl (fun i a => absurd a (by simp));refine ⟨.tuple #[], w', C, ?_, g2, g3, VRs.unit⟩;simp only [Builtin.clear_, List.getElem?_toArray, List.getElem?_cons_zero, h0, Sem.run_bind, run_underlying hu, Result.andThen_ok, hg, g1, Sem.run_pure]
 ·rename_i kt et hu;cases h;cases hm;cases h0 : ts[0]? with
  | none => simp [h0] at hu
  | some t0 =>
  simp only [h0, Option.bind_some] at hu;refine Snd.same hR (v' := .tuple #[]) ?_ VRs.unit;simp only [Builtin.clear_, List.getElem?_toArray, List.getElem?_cons_zero, h0, Sem.run_bind, run_underlying hu, Result.andThen_ok, Sem.run_pure]
def z2l (z : List Value) : Nat → List Value
 | 0 => []
 | n + 1 => z ++ z2l z n
theorem z2M (z : List Value) (n : Nat) : (z2l z n).length = n * z.length := by
 induction n with
 | zero => simp [z2l]
 | succ n ih => simp [z2l, ih, Nat.succ_mul, Nat.add_comm]
theorem zbq (z : List Value) : ∀ (n i : Nat) (h : i < (z2l z n).length) (h' : i % z.length < z.length), (z2l z n)[i] = z[i % z.length] := by
 intro n
 induction n with
 | zero => intro i h; simp [z2l] at h
 | succ n ih =>
  intro i h h';simp only [z2l];by_cases hi : i < z.length
  ·rw [List.getElem_append_left hi];simp [Nat.mod_eq_of_lt hi]
  ·rw [List.getElem_append_right (by omega)];have hz : 0 < z.length := by omega
   have h2 : (i - z.length) % z.length = i % z.length := by
    conv => rhs; rw [show i = (i - z.length) + z.length by omega, Nat.add_mod_right]
   rw [ih (i - z.length) (by simp [z2l] at h; omega) (by rw [h2]; exact h')];simp only [h2]
theorem z5P (z : List Value) (n : Nat) : (Builtin.zeroCells z.toArray n).toList = z2l z n := by
 apply List.ext_getElem
 ·simp [Builtin.zeroCells, z2M]
 ·intro i h1 h2
  have hz : 0 < z.length := by
   rw [z2M] at h2;rcases Nat.eq_zero_or_pos z.length with e | e
   ·simp [e] at h2
   ·exact e
  have hm := Nat.mod_lt i hz;rw [zbq z n i h2 hm];simp [Builtin.zeroCells, hm]
def zaj (P : Program) (H : Heap) (ts : Array TypeId) (m : Value) : Option Eff :=
 match ts[0]?.bind P.underlying, m with
 | some (.slice elem), .slice a n _ =>
  if n = 0 then some .none
  else match a with
   | none => some .none
   | some a =>
    match z0Y P elem with
    | some z => (zbX H a (z2l z n)).map (.upd a.block ·)
    | none => none
 | _, _ => none
theorem z5Q {z : List Value} (h : z.all zK = true) (n : Nat) : (z2l z n).all zK = true := by
 induction n with
 | zero => rfl
 | succ n ih => simp only [z2l, List.all_append, h, ih, Bool.and_self]
theorem z8v (hR : Rel W0 C nx H w) {ts : Array TypeId} {ty : TypeId} {m m' : Value} {e : Eff} (h : zaj P H ts m = some e) (hm : VR nx H C m m') :
  Snd W0 C nx H ((Builtin.clear_ ts ty #[m']).run P w) (.tuple #[]) e := by
 unfold zaj at h;split at h
 case h_2 => cases h
 rename_i elem a n c hu;cases h0 : ts[0]? with
 | none => simp [h0] at hu
 | some t0 =>
 simp only [h0, Option.bind_some] at hu;split at h
 ·rename_i hn;cases h;subst hn;refine Snd.same hR (v' := .tuple #[]) ?_ VRs.unit;cases hm with
  | nils => simp only [Builtin.clear_, List.getElem?_toArray, List.getElem?_cons_zero, h0, Sem.run_bind, run_underlying hu, Result.andThen_ok, Sem.run_pure]
  | slc => simp only [Builtin.clear_, List.getElem?_toArray, List.getElem?_cons_zero, h0, Sem.run_bind, run_underlying hu, Result.andThen_ok, Sem.run_pure]
 ·rename_i hn;cases hm with
  | nils =>
   simp only at h;cases h;refine Snd.same hR (v' := .tuple #[]) ?_ VRs.unit;simp only [Builtin.clear_, List.getElem?_toArray, List.getElem?_cons_zero, h0, Sem.run_bind, run_underlying hu, Result.andThen_ok, Sem.run_pure]
  | slc a _ _ b c' k1 k2 =>
   simp only at h;split at h
   case h_2 => cases h
   rename_i z hz;simp only [Option.map_eq_some_iff] at h;obtain ⟨o, ho, rfl⟩ := h;obtain ⟨o2, ho2, ht2⟩ := z8W ho;obtain rfl := (k2 o2 ho2 ht2).1;obtain ⟨z', z1, z2, z3⟩ := z1p hz;obtain ⟨w', e1, e2, e3⟩ := z5H (P := P) hR ho (z2f (z5Q z3 n));refine ⟨.tuple #[], w', C, ?_, e2, e3, VRs.unit⟩;have hz2 : (Builtin.zeroCells z'.cells n).toList = z2l z n := by rw [z2, z5P]
   cases n with
   | zero => exact absurd rfl hn
   | succ n =>
   simp only [Builtin.clear_, List.getElem?_toArray, List.getElem?_cons_zero, h0, Sem.run_bind, run_underlying hu, Result.andThen_ok, z1, hz2, e1, Sem.run_pure]
def zh1 (P : Program) (H : Heap) (args : Array TypeId) (x : Value) : Option Value :=
 match args[0]? with
 | some t =>
  match P.underlying t, x with
  | some (.slice _), .slice none _ c => some (.int .i64 c)
  | some (.slice _), .slice (some a) _ c =>
   match a.spot, H a.block with
   | none, some o => if o.tag = none then some (.int .i64 c) else none
   | _, _ => none
  | _, _ => none
 | none => none
theorem zbO (hR : Rel W0 C nx H w) {args : Array TypeId} {ty : TypeId} {x x' v : Value} (h : zh1 P H args x = some v) (hx : VR nx H C x x') : Snd W0 C nx H ((Builtin.cap_ args ty #[x']).run P w) v .none := by
 unfold zh1 at h;split at h
 case h_2 => cases h
 rename_i t ha;split at h
 ·rename_i el l c hu;cases h;refine Snd.same hR (v' := .int .i64 c) ?_ (.int _ _);cases hx;simp only [Builtin.cap_, ha, List.getElem?_toArray, List.getElem?_cons_zero, Sem.run_bind, run_underlying hu, Result.andThen_ok, Sem.run_pure, goInt]
 ·rename_i el a l c hu;split at h
  case h_2 => cases h
  rename_i o hs ho;split at h
  case isFalse => cases h
  rename_i ht;cases h;cases hx with
  | slc _ _ _ b c' k1 k2 =>
  have hc := (k2 o ho (ht.trans hs.symm)).2;simp only [z27, hs] at hc;subst hc;refine Snd.same hR (v' := .int .i64 c') ?_ (.int _ _);simp only [Builtin.cap_, ha, List.getElem?_toArray, List.getElem?_cons_zero, Sem.run_bind, run_underlying hu, Result.andThen_ok, Sem.run_pure, goInt]
 ·cases h
def z8b (P : Program) (nx : Nat) (ts : Array TypeId) (s x : Value) : Option (Value × Eff) :=
 match ts[0]?, ts[1]? with
 | some st, some xt =>
  match P.underlying st, P.underlying xt, s, x with
  | some (.slice elem), some (.int _), .slice none 0 0, .int .i64 k =>
   match z1W P elem, z0u P elem, z0Y P elem with
   | some size, some bytes, some z =>
    if z.length = size ∧ 0 ≤ k ∧ k ≤ 1099511627776 ∧ (2 * k.toNat + 192) * bytes ≤ 281474976710656 then
     if k = 0 then some (.slice none 0 0, .none)
     else some (.slice (some ⟨nx, 0, some nx⟩) k.toNat k.toNat, .new (.cells (z2l z k.toNat) size (some nx) false (some elem)))
    else none
   | _, _, _ => none
  | _, _, _, _ => none
 | _, _ => none
theorem z73 {st xt ty elem : TypeId} {kd : IntKind} {size n bytes : Nat} {z : List Value} {args : Array TypeId} (w : World)
  (ha0 : args[0]? = some st) (ha1 : args[1]? = some xt) (hst : P.underlying st = some (.slice elem)) (hxt : P.underlying xt = some (.int kd)) (hs : z1W P elem = some size) (hb : z0u P elem = some bytes) (hzo : z0Y P elem = some z)
  (hzl : z.length = size) (hn : 0 < n) (hbd : n ≤ 1099511627776) (hbd2 : (2 * n + 192) * bytes ≤ 281474976710656) :
  ∃ c, n ≤ c ∧ (Builtin.append_ args ty #[.slice none 0 0, .int .i64 n]).run P w = .ok (.slice (some ⟨w.heap.size, 0, none⟩) n c) (w.drew.alloc (.cells ((z2l z n) ++ rep (c - n) z).toArray elem)) := by
 obtain ⟨i, hi, hib⟩ := z1i hb;obtain ⟨zv, hzr, hzc, hzp⟩ := z1p hzo;refine ⟨(Question.appendCap n 0 elem).cut (w.tape w.drawn (.appendCap n 0 elem)), by simp [Question.cut], ?_⟩;generalize hc : (Question.appendCap n 0 elem).cut (w.tape w.drawn (.appendCap n 0 elem)) = c;have hw : IntKind.i64.wrap (n : Int) = n := IntWalk.i64_in _ (by omega)
 have hmul : (n : Int) * bytes ≤ 281474976710656 := by
  have : n * bytes ≤ (2 * n + 192) * bytes := Nat.mul_le_mul_right _ (by omega);have h2 : n * bytes ≤ 281474976710656 := by omega
  rw [← Int.natCast_mul]; omega
 have g1 : ¬ ((n : Int) < 0) := by omega
 have hint : ∀ w' : World, (asInt (.int .i64 (n : Int))).run P w' = .ok (n : Int) w' := fun _ => rfl
 have g2 : ¬ ((n : Int) * (bytes : Int) > 2 ^ 48) := by
  have : (2 : Int) ^ 48 = 281474976710656 := by decide
  omega
 simp only [Builtin.append_, ha0, ha1, List.getElem?_toArray, List.getElem?_cons_zero, List.getElem?_cons_succ, Sem.run_bind, run_underlying hst, run_underlying hxt, Result.andThen_ok, z03 hs, Sem.run_pure, if_true, hint, hw, g1, if_false, hi, hib, g2, Int.toNat_natCast];rw [if_neg (by omega)]
 have h63 : ¬ (((n : Int) > IntKind.i64.max)) := by
  have : IntKind.i64.max = 9223372036854775807 := rfl;omega
 have h48 : ¬ (Builtin.nextslicecap n 0 * bytes > 2 ^ 48) := by
  have := Nat.mul_le_mul_right bytes (z4n n 0 (by omega));have h2 : (2 : Nat) ^ 48 = 281474976710656 := by decide
  omega
 have hforced : (Question.appendCap n 0 elem).forced = false := rfl
 have hfirst : ∀ w' : World, ((if (!true) = true then Builtin.firstCells size n (.int .i64 (n : Int)) else if n * size = 0 then pure #[] else do pure (Builtin.zeroCells (← zeroValue elem).cells n) : Sem (Array Value))).run P w' = .ok (z2l z n).toArray w' := by
  intro w';simp only [Bool.not_true, Bool.false_eq_true, if_false];split
  ·rename_i h0;have : (z2l z n) = [] := by rw [← List.length_eq_zero_iff, z2M, hzl]; exact h0
   rw [this]; rfl
  ·simp only [Sem.run_bind, hzr, Result.andThen_ok, Sem.run_pure];rw [hzc, ← z5P]
 simp only [h63, h48, false_and, if_false, Sem.run_bind, Sem.run_pure, hi, Result.andThen_ok, hib, run_choose, Nat.zero_add, hforced, Bool.false_eq_true, World.drew_eq, hc, run_askRoom, Builtin.firstCells];simp only [Bool.not_true, Bool.false_eq_true, if_false] at hfirst ⊢;simp only [hfirst, Result.andThen_ok, Sem.run_bind, hzr, hzc, newRow, run_newObj, World.alloc_eq, World.size_drew, Sem.run_pure];have hzz := z4u z.toArray (c - n);simp only [Builtin.zeroCells, hzz];simp
theorem z7t (hR : Rel W0 C nx H w) {args : Array TypeId} {ty : TypeId} {s s' x x' v : Value} {e : Eff} (h : z8b P nx args s x = some (v, e)) (hs : VR nx H C s s') (hx : VR nx H C x x') :
  Snd W0 C nx H ((Builtin.append_ args ty #[s', x']).run P w) v e := by
 unfold z8b at h;split at h
 case h_2 => cases h
 rename_i st xt ha0 ha1;split at h
 case h_2 => cases h
 rename_i elem kd k hst hxt;split at h
 case h_2 => cases h
 rename_i size bytes z hsz hby hzo;split at h
 case isFalse => cases h
 rename_i hc0;obtain ⟨hzl, h0, hbd, hbd2⟩ := hc0;obtain ⟨n, rfl⟩ := Int.eq_ofNat_of_zero_le h0;cases hs;cases hx;obtain ⟨zv, hzr, hzc, hzp⟩ := z1p hzo;split at h
 ·rename_i hk;simp only [Option.some.injEq, Prod.mk.injEq] at h;obtain ⟨rfl, rfl⟩ := h;have : n = 0 := by omega
  subst this;refine Snd.same hR (v' := .slice none 0 0) ?_ (.nils _ _);obtain ⟨i, hi, hib⟩ := z1i hby
  have hw : IntKind.i64.wrap ((0 : Nat) : Int) = 0 := rfl;have hint : ∀ w' : World, (asInt (.int .i64 ((0 : Nat) : Int))).run P w' = .ok (0 : Int) w' := fun _ => rfl;have hw0 : IntKind.i64.wrap (0 : Int) = 0 := rfl;have g2 : ¬ ((0 : Int) * (bytes : Int) > 2 ^ 48) := by rw [Int.zero_mul]; decide
  simp only [Builtin.append_, ha0, ha1, List.getElem?_toArray, List.getElem?_cons_zero, List.getElem?_cons_succ, Sem.run_bind, run_underlying hst, run_underlying hxt, Result.andThen_ok, z03 hsz, Sem.run_pure, if_true, hint, hw0, Int.lt_irrefl, if_false, hi, hib, g2, Int.toNat_zero, Nat.zero_add, Nat.le_refl, Nat.zero_mul, Bool.not_true, Bool.false_eq_true]
 ·rename_i hk;simp only [Option.some.injEq, Prod.mk.injEq] at h;obtain ⟨rfl, rfl⟩ := h;simp only [Int.toNat_natCast, Int.ofNat_eq_natCast] at *;obtain ⟨c, hcn, hrun⟩ := z73 (P := P) (ty := ty) w ha0 ha1 hst hxt hsz hby hzo hzl (by omega) (by omega) hbd2;obtain ⟨C', hC, h1, h2⟩ := z2g hR.drew (z2f (z5Q hzp n)) elem size (rep (c - n) z) (some nx) (by simp) (by simp);refine ⟨_, _, C', hrun, by simpa [Eff.H, Eff.nx] using h1, h2, ?_⟩;rw [hC];refine .slc _ _ _ _ _ ⟨by simp [Eff.nx], by simp [Eff.nx]⟩ (fun o ho _ => ⟨by simp [Corr.at, Corr.put], ?_⟩);simp only [Eff.H, Heap.put, if_true, Option.some.injEq] at ho;subst ho;simp only [z27, Corr.put, if_true, AObj.esz, z1r, hzl, z2M];refine ⟨hcn, ?_⟩;rw [← Nat.add_mul];have : n + (c - n) = c := by omega
  rw [this]; omega
end
end Go.Am

import Derived.Test.YtjgbcpagfghfnaaQYM5
import Derived.ChangeKeysEq
set_option linter.unusedVariables false
set_option linter.unusedSimpArgs false
set_option linter.unnecessarySimpa false
namespace Go.Am
open Go.RowKit
section
variable {P : Program} {W0 : World} {C : Corr} {nx : Nat} {H : Heap} {w : World}
def z2T (P : Program) (nx : Nat) (t : TypeId) (l c : Value) : Option (Value × Eff) :=
 match P.underlying t, l, c with
 | some (.slice elem), .int _ l, .int _ c =>
  match z1W P elem, z0u P elem, z0Y P elem with
  | some size, some bytes, some z =>
   if 0 ≤ l ∧ l ≤ c ∧ c ≤ 1099511627776 ∧ bytes * c.toNat ≤ 140737488355328 ∧ z.length = size then
    some (.slice (some ⟨nx, 0, none⟩) l.toNat c.toNat, .new (.cells (rep c.toNat z) size none false (some elem)))
   else none
  | _, _, _ => none
 | _, _, _ => none
theorem z6b (hR : Rel W0 C nx H w) {t : TypeId} {l l' c c' v : Value} {e : Eff} (h : z2T P nx t l c = some (v, e)) (hl : VR nx H C l l') (hc : VR nx H C c c') :
  Snd W0 C nx H ((Instr.makeSlice t l' c').run P w) v e := by
 unfold z2T at h;split at h
 case h_2 => cases h
 rename_i elem kl l kc c hu;split at h
 case h_2 => cases h
 rename_i size bytes z hs hb hz;split at h
 case isFalse => cases h
 rename_i hcond;obtain ⟨h0, hlc, hcb, hbb, hzl⟩ := hcond;simp only [Option.some.injEq, Prod.mk.injEq] at h;obtain ⟨rfl, rfl⟩ := h;cases hl; cases hc;obtain ⟨i, hi, hib⟩ := z1i hb;obtain ⟨zv, hzr, hzc, hzp⟩ := z1p hz;have hrep : VRs nx H C (rep c.toNat z) (rep c.toNat z) := z2f (by simp only [rep, List.all_flatten, List.all_eq_true, List.mem_replicate]; rintro x ⟨_, rfl⟩; exact List.all_eq_true.1 hzp);obtain ⟨C', hC, h1, h2⟩ := z2g hR hrep elem size [] none (by simp) (fun _ => rfl);refine ⟨.slice (some ⟨w.heap.size, 0, none⟩) l.toNat c.toNat, w.alloc (.cells (rep c.toNat z ++ []).toArray elem), C', ?_, by simpa [Eff.H, Eff.nx] using h1, h2, ?_⟩
 ·have wl : IntKind.i64.wrap l = l := IntWalk.i64_in _ (by omega);have wc : IntKind.i64.wrap c = c := IntWalk.i64_in _ (by omega)
  have hbc : ((bytes : Int) * c) = ((bytes * c.toNat : Nat) : Int) := by
   rw [Int.natCast_mul]; congr 1; omega
  have h48 : ((2 : Int) ^ 48) = 281474976710656 := by decide
  simp only [Instr.makeSlice, asInt, asIntOf, Sem.run_bind, Sem.run_pure, run_underlying hu, Result.andThen_ok, hi, hib, wl, wc];have hn1 : ¬ (c < 0) := by omega
  have hn2 : ¬ (l < 0) := by omega
  have hn3 : ¬ (l > c) := by omega
  have hn4 : ¬ ((bytes : Int) * c > 2 ^ 48) := by rw [hbc, h48]; omega
  simp only [hn1, hn2, hn3, hn4, decide_false, Bool.or_false, Bool.false_eq_true, if_false, or_self, Sem.run_bind, run_askRoom, Result.andThen_ok, z03 hs];by_cases hz0 : c.toNat * size = 0
  ·have hr : rep c.toNat z = [] := by rw [← List.length_eq_zero_iff, z1r, hzl]; exact hz0
   have hr0 : ∀ zero : Array Value, (Array.range 0).map (fun i => zero[i % zero.size]!) = #[] := fun zero => by simp
   simp only [hz0, if_true, Sem.run_pure, Result.andThen_ok, hr0, hr];simp [newRow]
  ·have hzc2 := z4u z.toArray c.toNat;simp only [List.size_toArray, hzl] at hzc2;simp only [hz0, if_false, Sem.run_bind, hzr, Result.andThen_ok, Sem.run_pure, hzc, List.size_toArray, hzl, hzc2];simp [newRow]
 ·rw [hC];exact .slc _ _ _ _ _ ⟨by simp [Eff.nx], by simp⟩ (fun o _ _ => ⟨by simp [Corr.at, Corr.put], by simp [z27]⟩)
def zfL (P : Program) (H : Heap) (args : Array TypeId) (x : Value) : Option Value :=
 match args[0]? with
 | some t =>
  match P.underlying t, x with
  | some .string, .string s => some (.int .i64 s.data.toList.length)
  | some (.array n _), _ => some (.int .i64 n)
  | some (.slice _), .slice _ n _ => some (.int .i64 n)
  | some (.map _ _), .map none => some (.int .i64 0)
  | some (.map _ _), .map (some r) =>
   match H r with
   | some (.map es _ _) => some (.int .i64 es.length)
   | _ => none
  | _, _ => none
 | none => none
theorem zbN (hR : Rel W0 C nx H w) {args : Array TypeId} {ty : TypeId} {x x' v : Value} (h : zfL P H args x = some v) (hx : VR nx H C x x') : Snd W0 C nx H ((Builtin.len_ args ty #[x']).run P w) v .none := by
 unfold zfL at h;split at h
 case h_2 => cases h
 rename_i t ha;split at h
 ·rename_i s hu;cases hx;cases h;refine Snd.same hR (v' := .int .i64 s.data.toList.length) ?_ (.int _ _);have : s.size = s.data.toList.length := by rw [Array.length_toList]; rfl
  simp only [Builtin.len_, ha, List.getElem?_toArray, List.getElem?_cons_zero, Sem.run_bind, run_underlying hu, Result.andThen_ok, Sem.run_pure, goInt, this]
 ·rename_i n el hu;cases h;refine Snd.same hR (v' := .int .i64 n) ?_ (.int _ _);simp only [Builtin.len_, ha, List.getElem?_toArray, List.getElem?_cons_zero, Sem.run_bind, run_underlying hu, Result.andThen_ok, Sem.run_pure, goInt]
 ·rename_i el a n c hu;cases h;refine Snd.same hR (v' := .int .i64 n) ?_ (.int _ _);cases hx <;> simp only [Builtin.len_, ha, List.getElem?_toArray, List.getElem?_cons_zero, Sem.run_bind, run_underlying hu, Result.andThen_ok, Sem.run_pure, goInt]
 ·rename_i k el hu;cases h;cases hx;refine Snd.same hR (v' := .int .i64 0) ?_ (.int _ _);simp only [Builtin.len_, ha, List.getElem?_toArray, List.getElem?_cons_zero, Sem.run_bind, run_underlying hu, Result.andThen_ok, Sem.run_pure, goInt]
 ·rename_i k el r hu;split at h
  ·rename_i es bs clock hm;cases h;cases hx with
   | map _ r' h1 h2 =>
   obtain rfl := h2 _ hm rfl;obtain ⟨es', e1, e2, e3, e4⟩ := hR.obj _ _ hm;refine Snd.same hR (v' := .int .i64 es.length) ?_ (.int _ _);simp [Builtin.len_, ha, run_underlying hu, goInt, getObj, Sem.run, e1, e2]
  ·cases h
 ·cases h
theorem VRs.uncons {a : Value} {l l' : List Value} (h : VRs nx H C (a :: l) l') : ∃ a' r, l' = a' :: r ∧ VR nx H C a a' ∧ VRs nx H C l r := by
 cases l' with
 | nil => have := h.1; simp at this
 | cons a' r =>
  exact ⟨a', r, rfl, h.2 0 (by simp) (by simp), by have := h.1; simpa using this, fun i p q => h.2 (i + 1) (by simpa using p) (by simpa using q)⟩
def z6r (x : Value) (i : Nat) : Option Value :=
 match x with
 | .tuple vs => vs.toList[i]?
 | _ => none
theorem z7p (hR : Rel W0 C nx H w) {x x' v : Value} {i : Nat} (h : z6r x i = some v) (hx : VR nx H C x x') : Snd W0 C nx H ((Instr.extract x' i).run P w) v .none := by
 unfold z6r at h;split at h
 ·rename_i vs;cases hx with
  | tuple _ a' ha h1 =>
  have hv : VRs nx H C vs.toList a'.toList := ⟨by simpa using ha, fun i p q => h1 i (by simpa using p) (by simpa using q)⟩;obtain ⟨v', e1, e2⟩ := hv.get? h;refine Snd.same hR (v' := v') ?_ e2;simp only [Array.getElem?_toList] at e1;simp [Instr.extract, e1]
 ·cases h
def zfu (P : Program) (e : TypeId) : Bool :=
 match P.underlying e with
 | some (.int .u8) => true
 | _ => false
theorem z5b {e : TypeId} (h : zfu P e = true) : P.underlying e = some (.int .u8) := by
 unfold zfu at h;split at h
 ·assumption
 ·cases h
def z8I : Value → Bool
 | .int .u8 _ => true
 | _ => false
def zgK : Value → UInt8
 | .int _ n => UInt8.ofNat n.toNat
 | _ => 0
def z7Q (H : Heap) (a : Addr) : Option AObj :=
 match H a.block with
 | some (.cells cs e t ro q) => if Nat.beq e 1 && !ro && decide (t = a.spot) then some (.cells cs e t ro q) else none
 | _ => none
theorem z9m {H : Heap} {a : Addr} {o : AObj} (h : z7Q H a = some o) : ∃ cs t q, o = .cells cs 1 t false q ∧ H a.block = some (.cells cs 1 t false q) ∧ t = a.spot := by
 unfold z7Q at h;split at h
 ·rename_i cs e t ro q ho;split at h
  ·rename_i hc;rw [Bool.and_eq_true, Bool.and_eq_true] at hc;obtain ⟨⟨h1, h2⟩, h3⟩ := hc;have h1' := Nat.eq_of_beq_eq_true h1;have h3' := of_decide_eq_true h3;cases ro with
   | true => cases h2
   | false =>
    cases h;subst h1';exact ⟨cs, t, q, rfl, ho, h3'⟩
  ·cases h
 ·cases h
theorem z9p (w : World) (a : Addr) (n : Nat) (c : Array Value) (el : TypeId) (fr : Nat × Nat) (h : w.heap[a.block]? = some (.cells c el fr)) :
  (∃ fr', (w.freeze a n).heap[a.block]? = some (.cells c el fr') ∧ (fr' = fr ∨ fr' = (a.off, a.off + n) ∨ fr' = (min fr.1 a.off, max fr.2 (a.off + n)) ∧ ¬ fr.1 = fr.2)) ∧ (∀ k, k ≠ a.block → (w.freeze a n).heap[k]? = w.heap[k]?) ∧ (w.freeze a n).heap.size = w.heap.size ∧ (w.freeze a n).os = w.os ∧ (w.freeze a n).tape = w.tape ∧ (w.freeze a n).output = w.output := by
 unfold World.freeze;by_cases hn : n = 0
 ·rw [if_pos hn];exact ⟨⟨fr, h, .inl rfl⟩, fun _ _ => rfl, rfl, rfl, rfl, rfl⟩
 ·rw [if_neg hn];obtain ⟨lo, hi⟩ := fr;refine ⟨⟨if lo == hi then (a.off, a.off + n) else (min lo a.off, max hi (a.off + n)), ?_, ?_⟩, ?_, by simp, rfl, rfl, rfl⟩
  ·simp [Array.getElem?_modify, h]
  ·by_cases e : lo = hi
   ·subst e; simp
   ·simp [e]
  ·intro k hk;rw [Array.getElem?_modify, if_neg (Ne.symm hk)]
def z56 (P : Program) (nx : Nat) (H : Heap) (src dst : TypeId) (x : Value) : Option (Value × Eff) :=
 match P.underlying src, P.underlying dst, x with
 | some _, some (.int k), .int _ n => some (.int k (k.wrap n), .none)
 | some _, some .string, .string s => some (.string s, .none)
 | some _, some (.slice e), .string s =>
  if zfu P e then some (.slice (some ⟨nx, 0, some nx⟩) s.data.toList.length s.data.toList.length, .new (.cells (s.data.toList.map z6w) 1 (some nx) false (some e))) else none
 | some (.slice e), some .string, .slice none _ _ => if zfu P e then some (.string .empty, .none) else none
 | some (.slice e), some .string, .slice (some a) len _ =>
  if zfu P e then
   match z1f H a len with
   | some cs => if cs.all z8I then some (.string ⟨(cs.map zgK).toArray⟩, .none) else none
   | none => none
  else none
 | some (.slice _), some (.slice e), .slice (some a) len c => if Nat.beq src dst && zfu P e then (z7Q H a).map fun o => (.slice (some a) len c, .upd a.block o) else none
 | _, _, _ => none
theorem z9r (w : World) (c : Array Value) (el : TypeId) (n : Nat) : (w.alloc (.cells c el (0, 0))).freeze ⟨w.heap.size, n, none⟩ 1 = w.alloc (.cells c el (n, n + 1)) := by
 simp only [World.freeze, World.alloc, Nat.succ_ne_zero, if_false];congr 1;apply Array.ext_getElem?;intro i;rw [Array.getElem?_modify];by_cases h : w.heap.size = i
 ·subst h; simp
 ·rw [if_neg h, Array.getElem?_push, Array.getElem?_push];simp only [Ne.symm h, if_false]
theorem z9n (hR : Rel W0 C nx H w) {cs cs' : List Value} (hv : VRs nx H C cs cs') (el : TypeId) (esz : Nat) (rest : List Value) (tag : Option Nat) (ht : ∀ t, tag = some t → t = nx) (hr : tag = none → rest = []) (fr : Nat × Nat)
  (hfr : FrOk fr (cs'.length + rest.length)) (hfz : esz = 1 ∨ fr = (0, 0)) :
  ∃ C', C' = C.put nx (w.heap.size, 0) (cs'.length + rest.length) ∧ Rel W0 C' (nx + 1) (H.put nx (.cells cs esz tag false (some el))) (w.alloc (.cells (cs' ++ rest).toArray el fr)) ∧ Stp nx H C (nx + 1) (H.put nx (.cells cs esz tag false (some el))) C' := by
 refine ⟨_, rfl, hR.new (.cells cs esz tag false (some el)) (.cells (cs' ++ rest).toArray el fr) 0 (cs'.length + rest.length) ht ?_⟩;rintro C' rfl hst;have hloc : (C.put nx (w.heap.size, 0) (cs'.length + rest.length)).loc nx = (w.heap.size, 0) := by simp [Corr.put]
 have hsiz : (C.put nx (w.heap.size, 0) (cs'.length + rest.length)).siz nx = cs'.length + rest.length := by simp [Corr.put]
 refine ⟨(cs' ++ rest).toArray, el, fr, ?_, ?_, ?_, ?_, ⟨fun _ => (by simpa using hfr), fun t ht => Option.some.inj ht, fun _ ht => ⟨(by simp [Corr.put]), (by simp [hr ht, hv.1])⟩, fun _ => hfz⟩⟩
 ·rw [hloc]; exact heap_alloc_new w _
 ·rw [hsiz]; simp
 ·rw [hloc]; simp [hv.1]
 ·intro i hi hi';have := (hv.2 i hi (by rw [← hv.1]; exact hi)).mono hst;simp only [hloc, Nat.zero_add, List.getElem_toArray];rw [List.getElem_append_left (by rw [← hv.1]; exact hi)];exact this
theorem z7g (g : Value → ByteArray → Sem (ForInStep ByteArray)) (hg : ∀ n r, g (.int .u8 n) r = pure (.yield (r.push (UInt8.ofNat n.toNat)))) : ∀ (cs : List Value) (acc : ByteArray), cs.all z8I = true →
  (forIn cs acc g).run P w = .ok ⟨acc.data ++ (cs.map zgK).toArray⟩ w := by
 intro cs
 induction cs with
 | nil => intro acc _; simp
 | cons c r ih =>
  intro acc h;simp only [List.all_cons, Bool.and_eq_true] at h;obtain ⟨hc, hr⟩ := h;cases c with
  | int k n =>
   cases k <;> first | (simp [z8I] at hc; done) | skip
   simp only [List.forIn_cons, hg, Sem.run_bind, Sem.run_pure, Result.andThen_ok];rw [ih _ hr];congr 2;simp [ByteArray.push, zgK]
  | _ => simp [z8I] at hc
theorem z7q (hR : Rel W0 C nx H w) {src dst : TypeId} {x x' v : Value} {e : Eff} (h : z56 P nx H src dst x = some (v, e)) (hx : VR nx H C x x') : Snd W0 C nx H ((convert src dst x').run P w) v e := by
 unfold z56 at h;split at h
 ·rename_i sd k kk n hs hd;cases h;cases hx;refine Snd.same hR (v' := .int k (k.wrap n)) ?_ (.int _ _);cases sd <;> simp [convert, run_underlying hs, run_underlying hd, Conv.intToInt]
 ·rename_i sd s hs hd;cases h;cases hx;refine Snd.same hR (v' := .string s) ?_ (.string _);cases sd <;> simp [convert, run_underlying hs, run_underlying hd]
 ·rename_i sd el s hs hd;split at h
  ·rename_i hu8;cases h;cases hx;have hu := z5b hu8;have hv : VRs nx H C (s.data.toList.map z6w) (s.data.toList.map z6w) := ⟨rfl, fun i a b => by simp only [List.getElem_map]; exact .int _ _⟩;have hss : s.size = s.data.toList.length := by rw [Array.length_toList]; rfl
   generalize hc : (Question.appendCap s.size 0 el).cut (w.tape w.drawn (.appendCap s.size 0 el)) = c;have hcn : s.size ≤ c := by rw [← hc]; simp [Question.cut]
   obtain ⟨C', hC, h1, h2⟩ := z9n hR.drew hv el 1 (List.replicate (c - s.size) (.int .u8 0)) (some nx) (by simp) (by simp) (c, c + 1) (.inr (by
    simp only [List.length_map, List.length_replicate, ← hss];omega)) (.inl rfl)
   refine ⟨.slice (some ⟨w.heap.size, 0, none⟩) s.size c, _, C', ?_, by simpa [Eff.H, Eff.nx] using h1, h2, ?_⟩
   ·have hforced : (Question.appendCap s.size 0 el).forced = false := rfl
    have hcells : (s.data.map z6w ++ Array.replicate (c - s.size) (Value.int .u8 0)) = ((s.data.toList.map z6w) ++ List.replicate (c - s.size) (Value.int .u8 0)).toArray := by
     apply Array.ext'; simp
    have hshape : (w.drew.alloc (.cells ((s.data.toList.map z6w) ++ List.replicate (c - s.size) (Value.int .u8 0)).toArray el)).shape? w.heap.size = some (el, c) := by
     simp only [World.shape?];rw [show (w.drew.alloc (.cells ((s.data.toList.map z6w) ++ List.replicate (c - s.size) (Value.int .u8 0)).toArray el)).heap[w.heap.size]? = _ from heap_alloc_new w.drew _];simp only [List.size_toArray, List.length_append, List.length_map, List.length_replicate, ← hss];congr 2; omega
    have hfz := z9r w.drew ((s.data.toList.map z6w) ++ List.replicate (c - s.size) (Value.int .u8 0)).toArray el c;rw [World.size_drew] at hfz
    have hgoal : (Conv.stringToBytes el s).run P w = .ok (.slice (some ⟨w.heap.size, 0, none⟩) s.size c) (w.drew.alloc (.cells ((s.data.toList.map z6w) ++ List.replicate (c - s.size) (Value.int .u8 0)).toArray el (c, c + 1))) := by
     have hmap : s.data.map (fun b => Value.int .u8 b.toNat) = s.data.map z6w := rfl;simp only [Conv.stringToBytes, hmap, Sem.run_bind, run_choose, hforced, Bool.false_eq_true, if_false, World.drew_eq, hc, Result.andThen_ok, newRow, run_newObj, World.alloc_eq, Sem.run_pure, World.size_drew, hcells, markStringish, run_shape, hshape, run_freeze, hfz]
    cases sd <;> simp only [convert, Sem.run_bind, run_underlying hs, run_underlying hd, run_underlying hu, Result.andThen_ok, hgoal]
   ·rw [hC, ← hss];refine .slc _ _ _ _ _ ⟨by simp [Eff.nx], by simp [Eff.nx]⟩ (fun o ho _ => ⟨by simp [Corr.at, Corr.put], ?_⟩);simp only [Eff.H, Heap.put, if_true, Option.some.injEq] at ho;subst ho;simp only [z27, Corr.put, if_true, AObj.esz, List.length_map, List.length_replicate, ← hss];omega
  ·cases h
 ·rename_i el l c hs hd;split at h
  ·rename_i hu8;cases h;cases hx;have hu := z5b hu8;refine Snd.same hR (v' := .string .empty) ?_ (.string _);simp [convert, run_underlying hs, run_underlying hd, run_underlying hu, Conv.bytesToString]
  ·cases h
 ·rename_i el a len c hs hd;split at h
  ·rename_i hu8;split at h
   ·rename_i cs hg;split at h
    ·rename_i hall;cases h;have hu := z5b hu8;cases hx with
     | slc _ _ _ b c' k1 k2 =>
     obtain ⟨o, ho, ht⟩ := z49 hg;obtain ⟨rfl, _⟩ := k2 o ho ht;obtain ⟨vs', hv, hl, hc⟩ := z1Y hR hg
     have hsame : vs' = cs := by
      apply List.ext_getElem hv.1.symm;intro i p q;have := hv.2 i q p;have hi := List.all_eq_true.1 hall cs[i] (List.getElem_mem q);generalize cs[i] = x at this hi;generalize vs'[i] = y at this;cases this <;> first | rfl | (simp [z8I] at hi)
     subst hsame;refine Snd.same hR (v' := .string ⟨(vs'.map zgK).toArray⟩) ?_ (.string _);simp only [convert, Sem.run_bind, run_underlying hs, run_underlying hd, run_underlying hu, Result.andThen_ok, Conv.bytesToString, z0R hl hc];rw [← Array.forIn_toList];rw [z7g (P := P) (w := w) _ (fun n r => rfl) vs'.toArray.toList ByteArray.empty (by simpa using hall)];simp only [Result.andThen_ok, Sem.run_pure];congr 2;simp [ByteArray.empty, ByteArray.emptyWithCapacity];rfl
    ·cases h
   ·cases h
  ·cases h
 ·rename_i el0 el a len c hs hd;split at h
  ·rename_i hcc;rw [Bool.and_eq_true] at hcc;obtain ⟨hsd, hu8⟩ := hcc;have hsd' : src = dst := Nat.eq_of_beq_eq_true hsd;subst hsd';have hel : el0 = el := by rw [hs] at hd; cases hd; rfl
   subst hel;have hu := z5b hu8;cases ho0 : z7Q H a with
   | none => rw [ho0] at h; cases h
   | some o =>
    rw [ho0] at h;cases h;obtain ⟨cs, t, q, rfl, ho, rfl⟩ := z9m ho0;cases hx with
    | slc _ _ _ b c' k1 k2 =>
    obtain ⟨rfl, k4⟩ := k2 _ ho rfl;obtain ⟨Cc, el', fr, r1, r2, r3, r4, r5, r6, r7, r8⟩ := hR.obj _ _ ho;have hown := hR.own _ _ ho rfl;have hsh : w.shape? (C.at a).block = some (el', Cc.size) := by simp [World.shape?, Corr.at, r1]
    obtain ⟨⟨fr', f1, f7⟩, f2, f3, f4, f5, f6⟩ := z9p w ⟨(C.at a).block, Cc.size, none⟩ 1 Cc el' fr (by simpa [Corr.at] using r1)
    have hrun : (convert src src (.slice (some (C.at a)) len c')).run P w = .ok (.slice (some (C.at a)) len c') (w.freeze ⟨(C.at a).block, Cc.size, none⟩ 1) := by
     simp [convert, run_underlying hs, run_underlying hu, markStringish, hsh]
    have hbel : BelD W0.heap.size W0 (w.freeze ⟨(C.at a).block, Cc.size, none⟩ 1) := hR.below.trans ⟨f4, f5, f6, by omega, fun k hk => f2 k (by simp only [Corr.at]; omega), Nat.le_of_eq (by unfold World.freeze; split <;> rfl)⟩;have key := hR.set (w' := w.freeze ⟨(C.at a).block, Cc.size, none⟩ 1) a.block _ (.cells cs 1 a.spot false q) (C.loc a.block) (C.siz a.block) ho rfl (Nat.le_refl _) (.inl ⟨rfl, rfl, rfl, rfl⟩) (.inl rfl) (fun _ => rfl) hbel (fun k _ hk => f2 k hk) ?_
    ·refine ⟨_, _, _, hrun, key.1, key.2, ?_⟩;refine .slc _ _ _ _ _ k1 (fun o ho' _ => ⟨by simp [Corr.at, Corr.put], ?_⟩);simp only [Eff.H, Heap.put, if_true, Option.some.injEq] at ho';subst ho';simpa [z27, Corr.put] using k4
    ·rintro C' rfl hst;refine ⟨Cc, el', fr', by simpa [Corr.put, Corr.at] using f1, by simpa [Corr.put] using r2, by simpa [Corr.put] using r3, ?_, fun _ => ?_, r6, fun h1 h2 => by simpa [Corr.put] using r7 h1 h2, fun _ => .inl rfl⟩
     ·intro i hi hi';simp only [Corr.put, if_true] at hi' ⊢;exact (r4 i hi hi').mono hst
     ·have hr5 := r5 rfl;rcases f7 with rfl | rfl | ⟨rfl, hne⟩
      ·exact hr5
      ·exact .inr (Nat.le_refl _)
      ·rcases hr5 with hr5 | hr5
       ·exact absurd hr5 hne
       ·exact .inr (Nat.le_min.2 ⟨hr5, Nat.le_refl _⟩)
  ·cases h
 ·cases h
end
end Go.Am
namespace Go.Am
open Go.RowKit
section
variable {P : Program} {W0 : World} {C : Corr} {nx : Nat} {H : Heap} {w : World}
def z1h (op : BinOp) (k : IntKind) (x y : Int) : Option Value :=
 match op with
 | .add => some (.int k (k.wrap (x + y)))
 | .sub => some (.int k (k.wrap (x - y)))
 | .mul => some (.int k (k.wrap (x * y)))
 | .quo => if y = 0 then none else some (.int k (k.wrap (x.tdiv y)))
 | .rem => if y = 0 then none else some (.int k (x.tmod y))
 | .and => some (.int k (k.wrap ((BitVec.ofInt k.bits x &&& BitVec.ofInt k.bits y).toNat)))
 | .or => some (.int k (k.wrap ((BitVec.ofInt k.bits x ||| BitVec.ofInt k.bits y).toNat)))
 | .xor => some (.int k (k.wrap ((BitVec.ofInt k.bits x ^^^ BitVec.ofInt k.bits y).toNat)))
 | .andNot => some (.int k (k.wrap ((BitVec.ofInt k.bits x &&& ~~~ BitVec.ofInt k.bits y).toNat)))
 | .shl | .shr => none
 | .eql => some (.bool (x == y))
 | .neq => some (.bool (x != y))
 | .lss => some (.bool (decide (x < y)))
 | .leq => some (.bool (decide (x ≤ y)))
 | .gtr => some (.bool (decide (x > y)))
 | .geq => some (.bool (decide (x ≥ y)))
def zcp (op : BinOp) (k : IntKind) (x y : Int) : Option Value :=
 if y < 0 then none else
 match op with
 | .shl => some (.int k (k.wrap (x * 2 ^ (min y.toNat k.bits))))
 | .shr => some (.int k (x.fdiv (2 ^ (min y.toNat k.bits))))
 | _ => none
def sEq (s r : ByteArray) : Bool := s.data.toList == r.data.toList
def sLt (s r : ByteArray) : Bool := Op.bytesLess s.data.toList r.data.toList
def zah (op : BinOp) (s r : ByteArray) : Option Value :=
 match op with
 | .add => if s.data.toList.length + r.data.toList.length ≤ 1099511627776 then some (.string ⟨(s.data.toList ++ r.data.toList).toArray⟩) else none
 | .eql => some (.bool (sEq s r))
 | .neq => some (.bool (!sEq s r))
 | .lss => some (.bool (sLt s r))
 | .leq => some (.bool (sLt s r || sEq s r))
 | .gtr => some (.bool (!(sLt s r || sEq s r)))
 | .geq => some (.bool (!sLt s r))
 | _ => none
def z4t (P : Program) (r : TypeId → Value → Value → Option Bool) (xs ys : List Value) : List Field → Option Bool
 | [] => some true
 | f :: fs =>
  if f.name = "_" then z4t P r xs ys fs
  else
   match z2H P f.type xs f.offset, z2H P f.type ys f.offset with
   | some a, some b =>
    match r f.type a b with
    | some true => z4t P r xs ys fs
    | some false => some false
    | none => none
   | _, _ => none
def z3g (P : Program) (r : TypeId → Value → Value → Option Bool) (elem : TypeId) (n : Nat) (xs ys : List Value) : List Nat → Option Bool
 | [] => some true
 | i :: is =>
  match z2H P elem xs (i * n), z2H P elem ys (i * n) with
  | some a, some b =>
   match r elem a b with
   | some true => z3g P r elem n xs ys is
   | some false => some false
   | none => none
  | _, _ => none
def zco (a : Addr) (o : AObj) (b : Addr) (o2 : AObj) : Bool :=
 match o, o2 with
 | .cells _ e t false _, .cells _ e2 t2 false _ => decide (t = a.spot) && decide (t2 = b.spot) && !Nat.beq e 1 && !Nat.beq e2 1
 | _, _ => false
theorem zaw {a b : Addr} {o o2 : AObj} (h : zco a o b o2 = true) : ∃ c e q c2 e2 q2, o = .cells c e a.spot false q ∧ o2 = .cells c2 e2 b.spot false q2 ∧ e ≠ 1 ∧ e2 ≠ 1 := by
 unfold zco at h;split at h
 ·rename_i c e t q c2 e2 t2 q2;simp only [Bool.and_eq_true, decide_eq_true_eq, Bool.not_eq_true'] at h;obtain ⟨⟨⟨rfl, rfl⟩, h1⟩, h2⟩ := h;exact ⟨c, e, q, c2, e2, q2, rfl, rfl, fun x => (by subst x; cases h1), fun x => (by subst x; cases h2)⟩
 ·cases h
theorem z5r {a b : Addr} {ca cb : Array Value} {ta tb : TypeId} (hbl : a.block ≠ b.block) (ha : w.heap[a.block]? = some (.cells ca ta (0, 0))) (hb : w.heap[b.block]? = some (.cells cb tb (0, 0))) :
  (sameAddr a b).run P w = .ok false w := by
 simp [sameAddr, hbl, World.frozen?, ha, hb, noView, viewAt, World.shape?, mayBeOne, stringish]
def aEq (P : Program) (H : Heap) : Nat → TypeId → Value → Value → Option Bool
 | 0, _, _, _ => none
 | d + 1, t, x, y =>
  match P.underlying t with
  | none => none
  | some u =>
   match u, x, y with
   | .bool, .bool a, .bool b => some (a == b)
   | .int _, .int k a, .int k' b => if k = k' then some (a == b) else none
   | .string, .string a, .string b => some (sEq a b)
   | .pointer _, .pointer none, .pointer b => some b.isNone
   | .pointer _, .pointer (some _), .pointer none => some false
   | .pointer e, .pointer (some a), .pointer (some b) =>
    match z1W P e, H a.block with
    | some n, some o =>
     if n ≠ 0 ∧ a.block = b.block ∧ o.tag = a.spot ∧ b.spot = a.spot then some (a.off == b.off)
     else if n ≠ 0 ∧ a.block ≠ b.block then (match H b.block with | some o2 => if zco a o b o2 then some false else none | none => none)
     else none
    | _, _ => none
   | .interface _, .nilIface, .nilIface => some true
   | .interface _, .nilIface, .iface _ _ => some false
   | .interface _, .iface _ _, .nilIface => some false
   | .slice _, .slice none _ _, .slice b _ _ => some b.isNone
   | .slice _, .slice (some _) _ _, .slice none _ _ => some false
   | .map _ _, .map none, .map b => some b.isNone
   | .map _ _, .map (some _), .map none => some false
   | .func _ _ _, .nilFunc, .nilFunc => some true
   | .func _ _ _, .nilFunc, .func _ _ _ => some false
   | .func _ _ _, .func _ _ _, .nilFunc => some false
   | .struct fields, .agg xs, .agg ys => if P.stoodInHeld t then none else z4t P (aEq P H d) xs.toList ys.toList fields.toList
   | .array len elem, .agg xs, .agg ys =>
    match z1W P elem with
    | some n => z3g P (aEq P H d) elem n xs.toList ys.toList (List.range len)
    | none => none
   | _, _, _ => none
theorem z4v (s r : ByteArray) : (s == r) = sEq s r := by
 rw [beq_toListBytes, ByteArray.toList_eq, ByteArray.toList_eq]; rfl
theorem z3y {xs xs' : Array Value} (ha : xs.size = xs'.size) (h1 : ∀ (i : Nat) (h : i < xs.size) (h' : i < xs'.size), VR nx H C xs[i] xs'[i]) : VRs nx H C xs.toList xs'.toList :=
 ⟨by simpa using ha, fun i p q => h1 i (by simpa using p) (by simpa using q)⟩
theorem z7j {r : TypeId → Value → Value → Option Bool} {d : Nat} (hr : ∀ t x y x' y' b, r t x y = some b → VR nx H C x x' → VR nx H C y y' → (Op.equalIn d t x' y').run P w = .ok b w)
  {xs ys : List Value} {xs' ys' : Array Value} (hx : VRs nx H C xs xs'.toList) (hy : VRs nx H C ys ys'.toList) : ∀ (fs : List Field) (b : Bool), z4t P r xs ys fs = some b → (Op.eqFields d xs' ys' fs).run P w = .ok b w := by
 intro fs
 induction fs with
 | nil => intro b h; simp only [z4t, Option.some.injEq] at h; simp [Op.eqFields, h]
 | cons f fs ih =>
  intro b h;simp only [z4t] at h;split at h
  ·rename_i hn;simp only [Op.eqFields, hn, ne_eq, not_true_eq_false, if_false];exact ih b h
  ·rename_i hn;split at h
   ·rename_i a c ha hc;obtain ⟨a', ea, va⟩ := z0S ha hx;obtain ⟨c', ec, vc⟩ := z0S hc hy;simp only [Array.toArray_toList] at ea ec;simp only [Op.eqFields, hn, ne_eq, not_false_eq_true, if_true, Sem.run_bind, ea, ec, Result.andThen_ok];split at h
    ·rename_i hq;rw [hr _ _ _ _ _ _ hq va vc];simpa using ih b h
    ·rename_i hq;rw [hr _ _ _ _ _ _ hq va vc];simp only [Option.some.injEq] at h;simp [← h]
    ·cases h
   ·cases h
theorem z8i {r : TypeId → Value → Value → Option Bool} {d : Nat} (hr : ∀ t x y x' y' b, r t x y = some b → VR nx H C x x' → VR nx H C y y' → (Op.equalIn d t x' y').run P w = .ok b w)
  {xs ys : List Value} {xs' ys' : Array Value} (hx : VRs nx H C xs xs'.toList) (hy : VRs nx H C ys ys'.toList) (elem : TypeId) (n : Nat) : ∀ (is : List Nat) (b : Bool), z3g P r elem n xs ys is = some b → (Op.eqItems d elem n xs' ys' is).run P w = .ok b w := by
 intro is
 induction is with
 | nil => intro b h; simp only [z3g, Option.some.injEq] at h; simp [Op.eqItems, h]
 | cons i is ih =>
  intro b h;simp only [z3g] at h;split at h
  ·rename_i a c ha hc;obtain ⟨a', ea, va⟩ := z0S ha hx;obtain ⟨c', ec, vc⟩ := z0S hc hy;simp only [Array.toArray_toList] at ea ec;simp only [Op.eqItems, Sem.run_bind, ea, ec, Result.andThen_ok];split at h
   ·rename_i hq;rw [hr _ _ _ _ _ _ hq va vc];simpa using ih b h
   ·rename_i hq;rw [hr _ _ _ _ _ _ hq va vc];simp only [Option.some.injEq] at h;simp [← h]
   ·cases h
  ·cases h
theorem z5e (hR : Rel W0 C nx H w) : ∀ (d d' : Nat) (t : TypeId) (x y x' y' : Value) (b : Bool), d ≤ d' → aEq P H d t x y = some b → VR nx H C x x' → VR nx H C y y' → (Op.equalIn d' t x' y').run P w = .ok b w := by
 intro d
 induction d with
 | zero => intro d' t x y x' y' b _ h; simp [aEq] at h
 | succ d ih =>
  intro d' t x y x' y' b hd h hx hy;obtain ⟨d', rfl⟩ : ∃ k, d' = k + 1 := ⟨d' - 1, by omega⟩;have ih' := fun t x y x' y' b => ih d' t x y x' y' b (by omega);simp only [aEq] at h;split at h
  ·cases h
  ·rename_i u hu;split at h
   ·cases hx; cases hy; simp only [Option.some.injEq] at h; simp [Op.equalIn, run_underlying hu, h]
   ·split at h
    ·rename_i hk;subst hk;cases hx; cases hy; simp only [Option.some.injEq] at h; simp [Op.equalIn, run_underlying hu, h]
    ·cases h
   ·cases hx; cases hy; simp only [Option.some.injEq] at h; simp [Op.equalIn, run_underlying hu, h, z4v]
   ·cases hx; cases hy <;> (simp only [Option.some.injEq] at h; simp [Op.equalIn, run_underlying hu, ← h])
   ·cases hx; cases hy; simp only [Option.some.injEq] at h; simp [Op.equalIn, run_underlying hu, ← h]
   ·rename_i e a c;split at h
    ·rename_i n o hn ho;split at h
     ·rename_i hc;obtain ⟨h1, h2, h3, h4⟩ := hc;simp only [Option.some.injEq] at h;cases hx with
      | ptr _ a' k1 k2 =>
      cases hy with
      | ptr _ c' m1 m2 =>
      obtain rfl := k2 ⟨o, ho, h3⟩;obtain rfl := m2 ⟨o, h2 ▸ ho, h3.trans h4.symm⟩;have hblk : ((C.at a).block == (C.at c).block) = true := by simp [Corr.at, h2]
      have hres : (C.at a == C.at c) = b := by
       rw [← h];simp only [Corr.at, ← h2];by_cases e1 : a.off = c.off
       ·simp [e1]
       ·have : (a.off == c.off) = false := by simpa using e1
        rw [this, beq_eq_false_iff_ne];intro e2;simp only [Addr.mk.injEq] at e2;omega
      simp only [Op.equalIn, Sem.run_bind, run_underlying hu, Result.andThen_ok, z03 hn, h1, ne_eq, not_false_eq_true, if_true, sameAddr, hblk, Sem.run_pure, hres]
     ·split at h
      ·rename_i hc;obtain ⟨h1, hne⟩ := hc;split at h
       ·rename_i o2 ho2;split at h
        ·rename_i hap;cases h;obtain ⟨c1, e1, q1, c2, e2, q2, rfl, rfl, x1, x2⟩ := zaw hap;cases hx with
         | ptr _ a' k1 k2 =>
         cases hy with
         | ptr _ c' m1 m2 =>
         obtain rfl := k2 ⟨_, ho, rfl⟩;obtain rfl := m2 ⟨_, ho2, rfl⟩;obtain ⟨Ca, ea, fa, g1, _, _, _, _, _, _, g8⟩ := hR.obj _ _ ho;obtain ⟨Cb, eb, fb, j1, _, _, _, _, _, _, j8⟩ := hR.obj _ _ ho2;obtain rfl := (g8 rfl).resolve_left x1;obtain rfl := (j8 rfl).resolve_left x2;have hsep := hR.sep _ _ _ _ ho ho2 hne rfl;have := z5r (P := P) (a := C.at a) (b := C.at c) hsep g1 j1;simp only [Op.equalIn, Sem.run_bind, run_underlying hu, Result.andThen_ok, z03 hn, h1, ne_eq, not_false_eq_true, if_true, this]
        ·cases h
       ·cases h
      ·cases h
    ·cases h
   ·cases hx; cases hy; simp only [Option.some.injEq] at h; simp [Op.equalIn, run_underlying hu, h]
   ·cases hx; cases hy; simp only [Option.some.injEq] at h; simp [Op.equalIn, run_underlying hu, h]
   ·cases hx; cases hy; simp only [Option.some.injEq] at h; simp [Op.equalIn, run_underlying hu, h]
   ·cases hx; cases hy <;> (simp only [Option.some.injEq] at h; simp [Op.equalIn, run_underlying hu, ← h])
   ·cases hx; cases hy; simp only [Option.some.injEq] at h; simp [Op.equalIn, run_underlying hu, ← h]
   ·cases hx; cases hy <;> (simp only [Option.some.injEq] at h; simp [Op.equalIn, run_underlying hu, ← h])
   ·cases hx; cases hy; simp only [Option.some.injEq] at h; simp [Op.equalIn, run_underlying hu, ← h]
   ·cases hx; cases hy; simp only [Option.some.injEq] at h; simp [Op.equalIn, run_underlying hu, h]
   ·cases hx; cases hy; simp only [Option.some.injEq] at h; simp [Op.equalIn, run_underlying hu, h]
   ·cases hx; cases hy; simp only [Option.some.injEq] at h; simp [Op.equalIn, run_underlying hu, h]
   ·split at h
    ·cases h
    ·rename_i fields xs ys hst;cases hx with
     | agg _ xs' hxa hx1 =>
     cases hy with
     | agg _ ys' hya hy1 =>
     have hf : P.fieldsOf t = fields := by simp [Program.fieldsOf, hu]
     rw [run_equalIn_struct w d' t xs' ys' (by rw [hf]; exact hu) (by simpa using hst), hf];exact z7j ih' (z3y hxa hx1) (z3y hya hy1) _ b h
   ·split at h
    ·rename_i len elem xs ys _ n hn;cases hx with
     | agg _ xs' hxa hx1 =>
     cases hy with
     | agg _ ys' hya hy1 =>
     unfold z1W at hn;cases hi : P.info? elem with
     | none => simp [hi] at hn
     | some i =>
      rw [run_equalIn_array w d' xs' ys' hu hi];have hcs : P.cellsOf elem = n := by simp [Program.cellsOf, hi] at hn ⊢; exact hn
      rw [hcs];exact z8i ih' (z3y hxa hx1) (z3y hya hy1) elem n _ b h
    ·cases h
   ·cases h
end
end Go.Am

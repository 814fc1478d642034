import Derived.Test.YtjgbcpagfghfnaaQYM26
import Derived.Test.YtjgbcpagfghfnaaQYM15
import Derived.Test.YtjgbcpagfghfnaaQYM12
set_option linter.unusedVariables false
set_option linter.unusedSimpArgs false
set_option linter.unnecessarySimpa false
namespace Go.Am
open Go.RowKit
def z4X (l : List (List Int)) (q : Nat) : List Int := l.map fun row => row.getD q 0
theorem z53 (l : List (List Int)) (q : Nat) : (z4X l q).length = l.length := by simp [z4X]
theorem zd2 {l : List (List Int)} {q i : Nat} (h : i < l.length) : z4X (l.take (i + 1)) q = z4X (l.take i) q ++ [(l.getD i []).getD q 0] := by
 unfold z4X;rw [List.take_succ_eq_append_getElem h, List.map_append, List.getD_eq_getElem?_getD (l := l), List.getElem?_eq_getElem h];rfl
end Go.Am
namespace Go.Proofs.Ytjgbcpagfghfnaa
open Go.Am Go.RowKit
attribute [local irreducible] aop OpsL Trip zt z1X z1E OpsR OpsQ
theorem z5m : Am.z1G Try.prog 40 := ⟨Try.f40, Try.func40, by kernel_rfl, by kernel_rfl⟩
set_option maxRecDepth 20000 in
set_option maxHeartbeats 16000000 in
theorem zaS (W0 : World) {nx : Nat} {H : Heap} {m : Mo} {V : MoV} (hm : MoIn H m V) (hn : MoLen m) {p q : Nat} (hp : p < m.ret.length) (hq : ∀ j, j < (m.ret.getD p []).length → q < ((m.ret.getD p []).getD j []).length) :
  ACalls Try.prog W0 40 [.agg (moV m V).toArray, .int .i64 p, .int .i64 q] nx H fun v nx' H' => ∃ ob, OwnInts H' ob 3 v (z4X (m.ret.getD p []) q) ∧ (∀ b t, ob = some (b, t) → nx ≤ b ∧ b < nx') ∧ Ext nx H nx' H' := by
 refine zg (fn := Try.f40) (c := _) Try.func40 rfl (fun tm n hn0 htm => ?_);have e0 : tm 0 = .agg (moV m V).toArray := htm 0;have e1 : tm 1 = .int .i64 p := htm 1;have e2 : tm 2 = .int .i64 q := htm 2;clear htm;replace hn0 : n = 29 := hn0;refine Trip.ok fun hok => ?_;replace hok : ∀ id o, H id = some o → id < nx := hok;refine z2k ?_;refine zY hm hok ?_ evd sdc;intro G x0 okG hb hG;clear e0;obtain ⟨ra, rc, rv⟩ := hG.ret.slice;have rh := hG.ret;have g7 := hb.c7;rw [rv] at rh g7;obtain ⟨q1, rb, rk, rfl, hc1, hrow⟩ := L3At.atI rh (show (0 : Int) ≤ p by omega) (show (p : Int) < m.ret.length by omega);simp only [Int.toNat_natCast] at hc1 hrow;have hl := hn.ret1 p;clear rh rv;generalize m.ret.getD p [] = L at *
 repeat (first | (refine zc (by first | exact omv | exact z09 | exact ofa | exact old | exact z1j | exact z1g) ?_) | (refine Trip.seq ?_) | (refine zd ?_) | (refine Trip.block ?_) | (refine OpsL.nil ?_; (change Trip _ _ _ _ _)))
 refine zG (fun (i : Nat) s => ∃ (tm : Nat → Value) (nx' : Nat) (F : Heap) (ob : Option (Nat × Nat)) (v : Value), s = ⟨tm, n, F, nx'⟩ ∧ Ext (nx + 1) G nx' F ∧ OwnInts F ob 3 v (z4X (L.take i) q) ∧ (∀ b t, ob = some (b, t) → nx + 1 ≤ b ∧ b < nx') ∧ tm 2 = .int .i64 q ∧ tm 7 = v ∧ tm 14 = .slice rb L.length rk ∧ tm 15 = .int .i64 L.length ∧ tm 16 = .int .i64 i ∧ i ≤ L.length) (fun i => L.length - i) 0 ?_ ?_
 ·exact ⟨_, _, _, none, _, rfl, Ext.refl, ⟨rfl, rfl, by simp [z4X]⟩, fun _ _ h => (by cases h), stp, stp, stp, stp, stp, by omega⟩
 clear e1 e2;rintro i s ⟨tm, nx', F, ob, v, rfl, hx, hown, hob, e2, e7, e14, e15, e16, hi⟩;obtain ⟨va, vc, hv⟩ := (OwnInts.at hown).slice;have hll2 : (z4X (L.take i) q).length = i := by rw [z53, List.length_take]; omega
 repeat (first | (refine zc (by exact z24) ?_) | (refine Trip.seq ?_) | (refine zd ?_) | (refine Trip.block ?_) | (refine zJ (fun _ => ?_) (fun _ => ?_)) | (refine Trip.skip ?_; (change Trip _ _ _ _ _)) | (refine OpsL.nil ?_; (change Trip _ _ _ _ _)))
 ·have hlt : i < L.length := by omega
  obtain ⟨q2, sb, sk, rfl, hc2, hrow2⟩ := L2At.atI (hrow.ext hx okG) (show (0 : Int) ≤ i by omega) (show (i : Int) < L.length by omega);simp only [Int.toNat_natCast] at hc2 hrow2;have hqi := hq i hlt;have hs := zd2 (q := q) hlt;obtain ⟨R, hR⟩ : ∃ R, L.getD i [] = R := ⟨_, rfl⟩;rw [hR] at hc2 hrow2 hqi hs;obtain ⟨q3, rfl, hc3⟩ := IntsAt.atI hrow2 (show (0 : Int) ≤ q by omega) (show (q : Int) < R.length by omega);simp only [Int.toNat_natCast] at hc3;obtain ⟨x, hxx⟩ : ∃ x, R.getD q 0 = x := ⟨_, rfl⟩;rw [hxx] at hc3 hs;rw [hv] at e7 hown
  repeat (first | (refine zc (by first | exact omv | exact z09 | exact z1j | exact old) ?_) | (refine zd ?_) | (refine OpsL.nil ?_; (change Trip _ _ _ _ _)))
  refine z63 sdc sdc evr (by decide) (by (simp only [zb, ↓reduceIte, reduceIte, Option.some.injEq, Nat.reduceEqDiff, *])) hown (fun b t hb => (hob b t hb).2) xrf xrf xrf xrf (by omega) ?_;rintro v' ob' H'' hown' ⟨b, rfl, hb⟩ hsame;refine zgX ?_;refine ⟨i + 1, ⟨_, _, _, some (b, nx' + 1), v', rfl, ?_, by rw [hs]; exact hown', fun b' t' e => ?_, stp, stp, stp, stp, stp, by omega⟩, by omega⟩
  ·exact ⟨by have := hx.1; omega, fun k hk => by rw [hsame k (by have := hx.1; omega) (fun b t hb => by have := (hob b t hb).1; omega), hx.2 k hk]⟩
  ·cases e;have := hx.1;rcases hb with rfl | ⟨t, hb⟩
   ·omega
   ·have := hob _ _ hb; omega
 ·repeat (first | (refine zc (by first | exact omv | exact z09) ?_) | (refine Trip.seq ?_) | (refine zd ?_) | (refine Trip.exit ?_; ((repeat (refine zD ?_)); change Trip _ _ _ _ _)) | (refine Trip.ret ?_; (dsimp only)) | (refine OpsL.nil ?_; (change Trip _ _ _ _ _)))
  have hi2 : i = L.length := by omega
  subst hi2;rw [List.take_length] at hown;exact ⟨.inr rfl, _, zn, ob, by rw [hv, z53] at hown; simpa [zb, e7, hv, z53] using hown, fun b t h => by have := hob b t h; omega, x0.trans hx⟩
end Go.Proofs.Ytjgbcpagfghfnaa
namespace Go.Am
open Go.RowKit
section
variable {P : Program} {W0 : World} {C : Corr} {nx : Nat} {H : Heap} {w : World}
theorem zav (hR : Rel W0 C nx H w) {args : Array TypeId} {ty st xt elem : TypeId} {xd : TypeDesc} {size bytes n len tg b cap : Nat} {z cc xs : List Value} {s' x x' : Value}
  (ha0 : args[0]? = some st) (ha1 : args[1]? = some xt) (hst : P.underlying st = some (.slice elem)) (hxt : P.underlying xt = some xd) (hni : z2J xd = true) (hsz : z1W P elem = some size) (hby : z0u P elem = some bytes) (hzo : z0Y P elem = some z) (hzl : z.length = size)
  (hsrc : z2V H size x none = some (n, xs)) (hone : xs.all (·.oneCell') = true) (ho : H b = some (.cells cc size (some tg) false (some elem))) (hcl : cc.length = len * size)
  (hb1 : len + n ≤ 1099511627776) (hb2 : (2 * (len + n) + 192) * bytes ≤ 281474976710656)
  (hs : VR nx H C (.slice (some ⟨b, 0, some tg⟩) len cap) s') (hx : VR nx H C x x') :
  Snd W0 C nx H ((Builtin.append_ args ty #[s', x']).run P w) (.slice (some ⟨b, 0, some tg⟩) (len + n) (len + n)) (.upd b (.cells (cc ++ xs) size (some tg) false (some elem))) ∨
  Snd W0 C nx H ((Builtin.append_ args ty #[s', x']).run P w) (.slice (some ⟨nx, 0, some nx⟩) (len + n) (len + n)) (.new (.cells (cc ++ xs) size (some nx) false (some elem))) := by
 obtain ⟨m, l', hlen, hnm, hxs, hxl, hfc⟩ := z4h (P := P) hR hsrc hx;simp only [cut] at hnm;subst hnm;cases hs with
 | slc _ _ _ b' cap' k1 k2 =>
 obtain ⟨rfl, k4⟩ := k2 _ ho rfl
 have hold : z1f H ⟨b, 0, some tg⟩ (len * size) = some cc := by
  unfold z1f;simp only [ho];rw [if_pos ⟨trivial, by omega⟩];simp [← hcl]
 simp only [z27, AObj.esz] at k4;obtain ⟨k5, k6⟩ := k4;obtain ⟨vs', hv, hvl, hvc⟩ := z1Y hR hold;obtain ⟨Cc, el, fr, r1, r2, r3, r4, r5⟩ := hR.obj _ _ ho;have hidlt := (hR.lt _ _ ho).1;by_cases hroom : len + n ≤ cap'
 ·refine .inl ?_;have hmul : len * size + n * size ≤ cap' * size := by rw [← Nat.add_mul]; exact Nat.mul_le_mul_right _ hroom
  obtain ⟨w', Cc', e1, e2, e3, e4, e5, e6, e7, e8, e9, e10⟩ := z2x (P := P) (C.loc b).1 ((C.loc b).2 + 0 + len * size) el fr l' 0 Cc w r1 (by rw [← hxs.1, hxl, r2]; omega) (r5.1 rfl).no (hxs.all_one hone)
  have hrun : (Builtin.append_ args ty #[.slice (some (C.at ⟨b, 0, some tg⟩)) len cap', x']).run P w = .ok (.slice (some (C.at ⟨b, 0, some tg⟩)) (len + n) cap') w' := by
   have hin := z1u (ty := ty) (base := some (C.at ⟨b, 0, some tg⟩)) (len := len) (cap := cap') (w := w) ha0 ha1 hst hxt hni hsz hroom hlen hfc;simp only at hin;rw [hin];have hat : (C.at ⟨b, 0, some tg⟩).add (len * size) = ⟨(C.loc b).1, (C.loc b).2 + 0 + len * size, none⟩ := by simp [Corr.at, z0K]
   rw [hat, e1];rfl
  have hbel : BelD W0.heap.size W0 w' := hR.below.trans ⟨e7, e8, e9, by omega, fun k hk => e5 k (by have := hR.own _ _ ho rfl; omega), Nat.le_of_eq e10.symm⟩
  have key := hR.set (nx' := nx) (w' := w') b _ (.cells (cc ++ xs) size (some tg) false (some elem)) (C.loc b) (C.siz b) ho rfl (by omega) (.inl ⟨rfl, rfl, rfl, rfl⟩) (.inl rfl) (fun _ => rfl) hbel
   (fun k _ hk => e5 k hk) ?_
  ·refine ⟨_, w', _, hrun, key.1, key.2, ?_⟩;refine .slc _ _ _ _ _ k1 (fun o ho' _ => ⟨by simp [Corr.at, Corr.put], ?_⟩);simp only [Eff.H, Heap.put, if_true, Option.some.injEq] at ho';subst ho';simp only [z27, Corr.put, if_true, AObj.esz];exact ⟨hroom, k6⟩
  ·rintro C' rfl hst';refine ⟨Cc', el, fr, by simpa [Corr.put] using e2, by simp [Corr.put, e3, r2], ?_, ?_, ⟨fun _ => (by rw [e3]; exact r5.1 rfl), r5.2.1, fun _ ht => (by cases ht), fun _ => r5.2.2.2 rfl⟩⟩
   ·simp only [Corr.put, if_true, List.length_append, hv.1, hvl, hxl, e3, r2]; omega
   ·intro i hi hi';simp only [Corr.put, if_true] at hi' ⊢;have hvx := (hv.append hxs).mono hst';have hi2 : i < (vs' ++ l').length := by rw [← (hv.append hxs).1]; exact hi
    have := hvx.2 i hi hi2
    have heq : Cc'[(C.loc b).2 + i] = (vs' ++ l')[i] := by
     apply Option.some.inj;rw [← Array.getElem?_eq_getElem hi', e4];rw [← List.getElem?_eq_getElem hi2];by_cases c1 : i < len * size
     ·rw [if_neg (by omega), List.getElem?_append_left (by omega)];have := hvc i c1;simp only [Corr.at, z0K, World.cell?, r1, Nat.add_zero] at this;simpa using this
     ·have hi3 := hi2;rw [List.length_append, hvl] at hi3;rw [if_pos (by omega), List.getElem?_append_right (by omega), hvl];congr 1; omega
    rw [heq];exact this
 ·refine .inr ?_
  obtain ⟨c, hcn, hrun⟩ := z1I (ty := ty) (base := some (C.at ⟨b, 0, some tg⟩)) (len := len) (cap := cap') (old := vs') (w := w) ha0 ha1 hst hxt hni hsz hby hzo (by omega) hb1 hb2 hlen hfc
   (fun w' hw' => by simp only [Builtin.firstCells]; exact z0R hvl (fun i hi => by rw [z3p hw']; exact hvc i hi))
  obtain ⟨C', hC, h1, h2⟩ := z2g hR.drew (hv.append hxs) elem size (rep (c - (len + n)) z) (some nx) (by simp) (by simp);refine ⟨_, _, C', hrun, by simpa [Eff.H, Eff.nx] using h1, h2, ?_⟩;rw [hC];refine .slc _ _ _ _ _ ⟨by simp [Eff.nx], by simp [Eff.nx]⟩ (fun o ho' _ => ⟨by simp [Corr.at, Corr.put], ?_⟩);simp only [Eff.H, Heap.put, if_true, Option.some.injEq] at ho';subst ho';simp only [z27, Corr.put, if_true, AObj.esz, z1r, hzl, List.length_append, hvl];refine ⟨hcn, ?_⟩;rw [← hxs.1, hxl, ← Nat.add_mul, ← Nat.add_mul];have : len + n + (c - (len + n)) = c := by omega
  rw [this]; omega
variable {st : ASt}
theorem zeh {ops : Array Oper} {i : Nat} {l : List Nat} {Q : ASt → Prop} {d : Tmp} {x y : Operand} {sl xt elem type : TypeId} {pos : String} {after : Array Edge} {xd : TypeDesc} {size bytes n len tg b cap : Nat} {z cc xs : List Value} {u : Value}
  (ho : ops[i]? = some ⟨some d, .call ⟨.builtin .append, #[x, y], #[sl, xt]⟩, type, pos, after, none⟩) (hd : d < st.n) (hx : st.ev x = some (.slice (some ⟨b, 0, some tg⟩) len cap)) (hy : st.ev y = some u)
  (hst : P.underlying sl = some (.slice elem)) (hxt : P.underlying xt = some xd) (hni : z2J xd = true) (hsz : z1W P elem = some size) (hby : z0u P elem = some bytes) (hzo : z0Y P elem = some z) (hzl : z.length = size)
  (hsrc : z2V st.H size u none = some (n, xs)) (hone : xs.all (·.oneCell') = true) (hob : st.H b = some (.cells cc size (some tg) false (some elem))) (hcl : cc.length = len * size)
  (hb1 : len + n ≤ 1099511627776) (hb2 : (2 * (len + n) + 192) * bytes ≤ 281474976710656)
  (h1 : Ops P W0 ops l ⟨zb st.tm (some d) (.slice (some ⟨b, 0, some tg⟩) (len + n) (len + n)), st.n, st.H.put b (.cells (cc ++ xs) size (some tg) false (some elem)), st.nx⟩ Q)
  (h2 : Ops P W0 ops l ⟨zb st.tm (some d) (.slice (some ⟨st.nx, 0, some st.nx⟩) (len + n) (len + n)), st.n, st.H.put st.nx (.cells (cc ++ xs) size (some st.nx) false (some elem)), st.nx + 1⟩ Q) : Ops P W0 ops (i :: l) st Q := by
 obtain ⟨o, hoo⟩ : ∃ o : Oper, o = ⟨some d, .call ⟨.builtin .append, #[x, y], #[sl, xt]⟩, type, pos, after, none⟩ := ⟨_, rfl⟩;have hw : z18 ops st o = true := by rw [hoo]; rfl
 have hdo : z1B st o = true := by rw [hoo]; simp [z1B, hd]
 have hdst : o.dst = some d := by rw [hoo]
 have hsem : ∀ (ρ : Option Nat) (e : Operand → Value), o.semAt ρ e = execOp e o := fun ρ e => Oper.semAt_eq ρ _ _ (fun c hc => by rw [hoo] at hc; cases hc)
 have hexec : ∀ (e : Operand → Value) (w : World), (execOp e o).run P w = ((do pure (Next.value (← Builtin.append_ #[sl, xt] type #[e x, e y])) : Sem Next).run P w) := by
  intro e w;rw [hoo];simp only [execOp, resolve, Sem.run_bind, Sem.run_pure, Result.andThen_ok, invoke];have he : Array.map e #[x, y] = #[e x, e y] := by simp
  rw [he];simp only [builtin, Sem.run_bind, Sem.run_pure]
 rw [← hoo] at ho;clear hoo;intro ρ C a w hr hs;simp only [wpOpsIn, ho, z1S hs ops o, hw, if_true];refine ⟨fun _ _ => trivial, ?_⟩;rcases zav (P := P) (args := #[sl, xt]) (ty := type) hs.rel rfl rfl hst hxt hni hsz hby hzo hzl hsrc hone hob hcl hb1 hb2 (hs.ev x _ hx) (hs.ev y _ hy) with hF | hF
 ·obtain ⟨n1, v', w', C', hrun, hn, hR, hS, hv⟩ := hF.toN;have hs' := hs.put (dst := o.dst) (z1t hdo) hR hS hv;rw [← hdst] at h1
  have hnext : wpOpsIn (rf ρ) 0 P ops (Post W0 C st a.defers fun e s => e = .normal ∧ Q s) l (a.put o.dst v') w' :=
   z6s (st1 := ⟨zb st.tm o.dst (.slice (some ⟨b, 0, some tg⟩) (len + n) (len + n)), st.n, st.H.put b (.cells (cc ++ xs) size (some tg) false (some elem)), st.nx⟩) (df := a.defers) hS rfl (.of_eq (z1q a o.dst v')) l ops _ w' (h1 ρ C' _ w' (hr.next hS) hs')
  rw [hsem, hexec, hrun];rcases hn with rfl | ⟨rfl, rfl⟩
  ·exact hnext
  ·exact hnext
 ·obtain ⟨n1, v', w', C', hrun, hn, hR, hS, hv⟩ := hF.toN;have hs' := hs.put (dst := o.dst) (z1t hdo) hR hS hv;rw [← hdst] at h2
  have hnext : wpOpsIn (rf ρ) 0 P ops (Post W0 C st a.defers fun e s => e = .normal ∧ Q s) l (a.put o.dst v') w' :=
   z6s (st1 := ⟨zb st.tm o.dst (.slice (some ⟨st.nx, 0, some st.nx⟩) (len + n) (len + n)), st.n, st.H.put st.nx (.cells (cc ++ xs) size (some st.nx) false (some elem)), st.nx + 1⟩) (df := a.defers) hS rfl (.of_eq (z1q a o.dst v')) l ops _ w' (h2 ρ C' _ w' (hr.next hS) hs')
  rw [hsem, hexec, hrun];rcases hn with rfl | ⟨rfl, rfl⟩
  ·exact hnext
  ·exact hnext
def OpsF (P : Program) (W0 : World) (ops : Array Oper) (l : List Oper) (st : ASt) (Q : ASt → Prop) : Prop := ∀ k, ops.toList.drop k = l → Ops P W0 ops (List.range' k l.length) st Q
theorem OpsF.of {ops : Array Oper} {l : List Oper} {Q : ASt → Prop} (h : OpsL P W0 ops l st Q) : OpsF P W0 ops l st Q := fun k hk => zbg l k st hk h
theorem zeg {ops : Array Oper} {Q : ASt → Prop} {l2 : List Oper} : ∀ (l : List Oper) (st : ASt), OpsL P W0 ops l st (fun s => OpsF P W0 ops l2 s Q) → OpsF P W0 ops (l ++ l2) st Q := by
 intro l
 induction l with
 | nil => intro st h; exact h
 | cons o l ih =>
  intro st h k hk
  have ho : ops[k]? = some o := by
   have : (ops.toList.drop k)[0]? = some o := by rw [hk]; rfl
   rw [List.getElem?_drop] at this;simpa using this
  have hk' : ops.toList.drop (k + 1) = l ++ l2 := by
   rw [← List.drop_drop, hk]; rfl
  obtain ⟨hd, h⟩ := h;rw [List.cons_append, List.length_cons, List.range'_succ];rcases h with ⟨hw, h⟩ | ⟨hw, ⟨v, e, hop, h⟩ | ⟨f, args, R, hc, hf, hcall, h⟩⟩
  ·exact Ops.skip ho hw hd (ih _ h _ hk')
  ·exact Ops.step ho hw hd hop (ih _ h _ hk')
  ·exact Ops.call ho hw hd hc hf hcall fun v nx' H' hr => ih _ (h v nx' H' hr) _ hk'
theorem OpsF.at {ops : Array Oper} {l : List Oper} {Q : ASt → Prop} (m : Nat) (h : OpsL P W0 ops (l.take m) st (fun s => OpsF P W0 ops (l.drop m) s Q)) : OpsF P W0 ops l st Q := by
 have := zeg _ _ h
 rwa [List.take_append_drop] at this
theorem zde {id : Nat} {ops : Array Oper} {Q : AExit → ASt → Prop} (h : OpsF P W0 ops ops.toList st (Q .normal)) : Trip P W0 (.region id ops false) st Q := by
 refine Trip.region ?_;have := h 0 rfl
 rwa [Array.length_toList, ← List.range_eq_range'] at this
theorem zdi {ops : Array Oper} {l : List Oper} {Q : ASt → Prop} {tm : Nat → Value} {H : Heap} {nx n0 : Nat} {d : Tmp} {x y : Operand} {sl xt elem type : TypeId} {pos : String} {after : Array Edge} {xd : TypeDesc} {size bytes n len tg b cap : Nat} {z cc xs : List Value} {u : Value}
  (hd : d < n0) (hx : ASt.ev ⟨tm, n0, H, nx⟩ x = some (.slice (some ⟨b, 0, some tg⟩) len cap)) (hy : ASt.ev ⟨tm, n0, H, nx⟩ y = some u)
  (hst : P.underlying sl = some (.slice elem)) (hxt : P.underlying xt = some xd) (hni : z2J xd = true) (hsz : z1W P elem = some size) (hby : z0u P elem = some bytes) (hzo : z0Y P elem = some z) (hzl : z.length = size)
  (hsrc : z2V H size u none = some (n, xs)) (hone : xs.all (·.oneCell') = true) (hob : H b = some (.cells cc size (some tg) false (some elem))) (hcl : cc.length = len * size)
  (hb1 : len + n ≤ 1099511627776) (hb2 : (2 * (len + n) + 192) * bytes ≤ 281474976710656)
  (h1 : OpsF P W0 ops l ⟨zb tm (some d) (.slice (some ⟨b, 0, some tg⟩) (len + n) (len + n)), n0, H.put b (.cells (cc ++ xs) size (some tg) false (some elem)), nx⟩ Q)
  (h2 : OpsF P W0 ops l ⟨zb tm (some d) (.slice (some ⟨nx, 0, some nx⟩) (len + n) (len + n)), n0, H.put nx (.cells (cc ++ xs) size (some nx) false (some elem)), nx + 1⟩ Q) :
  OpsF P W0 ops (⟨some d, .call ⟨.builtin .append, #[x, y], #[sl, xt]⟩, type, pos, after, none⟩ :: l) ⟨tm, n0, H, nx⟩ Q := by
 intro k hk
 have ho : ops[k]? = some ⟨some d, .call ⟨.builtin .append, #[x, y], #[sl, xt]⟩, type, pos, after, none⟩ := by
  have : (ops.toList.drop k)[0]? = some ⟨some d, .call ⟨.builtin .append, #[x, y], #[sl, xt]⟩, type, pos, after, none⟩ := by rw [hk]; rfl
  rw [List.getElem?_drop] at this;simpa using this
 have hk' : ops.toList.drop (k + 1) = l := by
  rw [← List.drop_drop, hk]; rfl
 rw [List.length_cons, List.range'_succ];exact zeh (st := ⟨tm, n0, H, nx⟩) ho hd hx hy hst hxt hni hsz hby hzo hzl hsrc hone hob hcl hb1 hb2 (h1 _ hk') (h2 _ hk')
end
end Go.Am

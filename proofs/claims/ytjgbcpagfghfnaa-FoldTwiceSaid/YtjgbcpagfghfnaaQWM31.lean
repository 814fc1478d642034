import Derived.Test.YtjgbcpagfghfnaaQWM13
import Derived.Test.YtjgbcpagfghfnaaQWM30
import Derived.Test.YtjgbcpagfghfnaaQWM16
set_option linter.unusedVariables false
set_option linter.unusedSimpArgs false
set_option linter.unnecessarySimpa false
namespace Go.Am
open Go.RowKit
section
variable {P : Program} {W0 : World} {C : Corr} {nx : Nat} {H : Heap} {w : World}
theorem append_fork (hR : Rel W0 C nx H w) {args : Array TypeId} {ty st xt elem : TypeId} {xd : TypeDesc} {size bytes n len tg b cap : Nat} {z cc xs : List Value} {s' x x' : Value}
    (ha0 : args[0]? = some st) (ha1 : args[1]? = some xt) (hst : P.underlying st = some (.slice elem)) (hxt : P.underlying xt = some xd) (hni : notInt xd = true) (hsz : szOf P elem = some size) (hby : bytesOfT P elem = some bytes) (hzo : zeroOf P elem = some z) (hzl : z.length = size)
    (hsrc : source H size x none = some (n, xs)) (hone : xs.all (·.oneCell') = true) (ho : H b = some (.cells cc size (some tg) false (some elem))) (hcl : cc.length = len * size)
    (hb1 : len + n ≤ 1099511627776) (hb2 : (2 * (len + n) + 192) * bytes ≤ 281474976710656)
    (hs : VR nx H C (.slice (some ⟨b, 0, some tg⟩) len cap) s') (hx : VR nx H C x x') :
    Snd W0 C nx H ((Builtin.append_ args ty #[s', x']).run P w) (.slice (some ⟨b, 0, some tg⟩) (len + n) (len + n)) (.upd b (.cells (cc ++ xs) size (some tg) false (some elem))) ∨
    Snd W0 C nx H ((Builtin.append_ args ty #[s', x']).run P w) (.slice (some ⟨nx, 0, some nx⟩) (len + n) (len + n)) (.new (.cells (cc ++ xs) size (some nx) false (some elem))) := by
  obtain ⟨m, l', hlen, hnm, hxs, hxl, hfc⟩ := source_sound (P := P) hR hsrc hx
  simp only [cut] at hnm
  subst hnm
  cases hs with
  | slc _ _ _ b' cap' k1 k2 =>
  obtain ⟨rfl, k4⟩ := k2 _ ho rfl
  have hold : getc H ⟨b, 0, some tg⟩ (len * size) = some cc := by
    unfold getc
    simp only [ho]
    rw [if_pos ⟨trivial, by omega⟩]
    simp [← hcl]
  simp only [capOk, AObj.esz] at k4
  obtain ⟨k5, k6⟩ := k4
  obtain ⟨vs', hv, hvl, hvc⟩ := getc_sound hR hold
  obtain ⟨Cc, el, fr, r1, r2, r3, r4, r5⟩ := hR.obj _ _ ho
  have hidlt := (hR.lt _ _ ho).1
  by_cases hroom : len + n ≤ cap'
  · refine .inl ?_
    have hmul : len * size + n * size ≤ cap' * size := by rw [← Nat.add_mul]; exact Nat.mul_le_mul_right _ hroom
    obtain ⟨w', Cc', e1, e2, e3, e4, e5, e6, e7, e8, e9, e10⟩ := run_storeCells (P := P) (C.loc b).1 ((C.loc b).2 + 0 + len * size) el fr l' 0 Cc w r1 (by rw [← hxs.1, hxl, r2]; omega) (r5.1 rfl).no (hxs.all_one hone)
    have hrun : (Builtin.append_ args ty #[.slice (some (C.at ⟨b, 0, some tg⟩)) len cap', x']).run P w = .ok (.slice (some (C.at ⟨b, 0, some tg⟩)) (len + n) cap') w' := by
      have hin := run_append_in (ty := ty) (base := some (C.at ⟨b, 0, some tg⟩)) (len := len) (cap := cap') (w := w) ha0 ha1 hst hxt hni hsz hroom hlen hfc
      simp only at hin
      rw [hin]
      have hat : (C.at ⟨b, 0, some tg⟩).add (len * size) = ⟨(C.loc b).1, (C.loc b).2 + 0 + len * size, none⟩ := by simp [Corr.at, add_none]
      rw [hat, e1]
      rfl
    have hbel : BelD W0.heap.size W0 w' := hR.below.trans ⟨e7, e8, e9, by omega, fun k hk => e5 k (by have := hR.own _ _ ho rfl; omega), Nat.le_of_eq e10.symm⟩
    have key := hR.set (nx' := nx) (w' := w') b _ (.cells (cc ++ xs) size (some tg) false (some elem)) (C.loc b) (C.siz b) ho rfl (by omega) (.inl ⟨rfl, rfl, rfl, rfl⟩) (.inl rfl) (fun _ => rfl) hbel
      (fun k _ hk => e5 k hk) ?_
    · refine ⟨_, w', _, hrun, key.1, key.2, ?_⟩
      refine .slc _ _ _ _ _ k1 (fun o ho' _ => ⟨by simp [Corr.at, Corr.put], ?_⟩)
      simp only [Eff.H, Heap.put, if_true, Option.some.injEq] at ho'
      subst ho'
      simp only [capOk, Corr.put, if_true, AObj.esz]
      exact ⟨hroom, k6⟩
    · rintro C' rfl hst'
      refine ⟨Cc', el, fr, by simpa [Corr.put] using e2, by simp [Corr.put, e3, r2], ?_, ?_, ⟨fun _ => (by rw [e3]; exact r5.1 rfl), r5.2.1, fun _ ht => (by cases ht), fun _ => r5.2.2.2 rfl⟩⟩
      · simp only [Corr.put, if_true, List.length_append, hv.1, hvl, hxl, e3, r2]; omega
      · intro i hi hi'
        simp only [Corr.put, if_true] at hi' ⊢
        have hvx := (hv.append hxs).mono hst'
        have hi2 : i < (vs' ++ l').length := by rw [← (hv.append hxs).1]; exact hi
        have := hvx.2 i hi hi2
        have heq : Cc'[(C.loc b).2 + i] = (vs' ++ l')[i] := by
          apply Option.some.inj
          rw [← Array.getElem?_eq_getElem hi', e4]
          rw [← List.getElem?_eq_getElem hi2]
          by_cases c1 : i < len * size
          · rw [if_neg (by omega), List.getElem?_append_left (by omega)]
            have := hvc i c1
            simp only [Corr.at, add_none, World.cell?, r1, Nat.add_zero] at this
            simpa using this
          · have hi3 := hi2
            rw [List.length_append, hvl] at hi3
            rw [if_pos (by omega), List.getElem?_append_right (by omega), hvl]
            congr 1; omega
        rw [heq]
        exact this
  · refine .inr ?_
    obtain ⟨c, hcn, hrun⟩ := run_append_out (ty := ty) (base := some (C.at ⟨b, 0, some tg⟩)) (len := len) (cap := cap') (old := vs') (w := w) ha0 ha1 hst hxt hni hsz hby hzo (by omega) hb1 hb2 hlen hfc
      (fun w' hw' => by simp only [Builtin.firstCells]; exact run_loadCells hvl (fun i hi => by rw [cell?_heap hw']; exact hvc i hi))
    obtain ⟨C', hC, h1, h2⟩ := new_sound hR.drew (hv.append hxs) elem size (rep (c - (len + n)) z) (some nx) (by simp) (by simp)
    refine ⟨_, _, C', hrun, by simpa [Eff.H, Eff.nx] using h1, h2, ?_⟩
    rw [hC]
    refine .slc _ _ _ _ _ ⟨by simp [Eff.nx], by simp [Eff.nx]⟩ (fun o ho' _ => ⟨by simp [Corr.at, Corr.put], ?_⟩)
    simp only [Eff.H, Heap.put, if_true, Option.some.injEq] at ho'
    subst ho'
    simp only [capOk, Corr.put, if_true, AObj.esz, length_rep, hzl, List.length_append, hvl]
    refine ⟨hcn, ?_⟩
    rw [← hxs.1, hxl, ← Nat.add_mul, ← Nat.add_mul]
    have : len + n + (c - (len + n)) = c := by omega
    rw [this]; omega
variable {st : ASt}
theorem Ops.fork {ops : Array Oper} {i : Nat} {l : List Nat} {Q : ASt → Prop} {d : Tmp} {x y : Operand} {sl xt elem type : TypeId} {pos : String} {after : Array Edge} {xd : TypeDesc} {size bytes n len tg b cap : Nat} {z cc xs : List Value} {u : Value}
    (ho : ops[i]? = some ⟨some d, .call ⟨.builtin .append, #[x, y], #[sl, xt]⟩, type, pos, after, none⟩) (hd : d < st.n) (hx : st.ev x = some (.slice (some ⟨b, 0, some tg⟩) len cap)) (hy : st.ev y = some u)
    (hst : P.underlying sl = some (.slice elem)) (hxt : P.underlying xt = some xd) (hni : notInt xd = true) (hsz : szOf P elem = some size) (hby : bytesOfT P elem = some bytes) (hzo : zeroOf P elem = some z) (hzl : z.length = size)
    (hsrc : source st.H size u none = some (n, xs)) (hone : xs.all (·.oneCell') = true) (hob : st.H b = some (.cells cc size (some tg) false (some elem))) (hcl : cc.length = len * size)
    (hb1 : len + n ≤ 1099511627776) (hb2 : (2 * (len + n) + 192) * bytes ≤ 281474976710656)
    (h1 : Ops P W0 ops l ⟨tmPut st.tm (some d) (.slice (some ⟨b, 0, some tg⟩) (len + n) (len + n)), st.n, st.H.put b (.cells (cc ++ xs) size (some tg) false (some elem)), st.nx⟩ Q)
    (h2 : Ops P W0 ops l ⟨tmPut st.tm (some d) (.slice (some ⟨st.nx, 0, some st.nx⟩) (len + n) (len + n)), st.n, st.H.put st.nx (.cells (cc ++ xs) size (some st.nx) false (some elem)), st.nx + 1⟩ Q) : Ops P W0 ops (i :: l) st Q := by
  obtain ⟨o, hoo⟩ : ∃ o : Oper, o = ⟨some d, .call ⟨.builtin .append, #[x, y], #[sl, xt]⟩, type, pos, after, none⟩ := ⟨_, rfl⟩
  have hw : wants ops st o = true := by rw [hoo]; rfl
  have hdo : dstOk st o = true := by rw [hoo]; simp [dstOk, hd]
  have hdst : o.dst = some d := by rw [hoo]
  have hsem : ∀ (ρ : Option Nat) (e : Operand → Value), o.semAt ρ e = execOp e o := fun ρ e => Oper.semAt_eq ρ _ _ (fun c hc => by rw [hoo] at hc; cases hc)
  have hexec : ∀ (e : Operand → Value) (w : World), (execOp e o).run P w = ((do pure (Next.value (← Builtin.append_ #[sl, xt] type #[e x, e y])) : Sem Next).run P w) := by
    intro e w
    rw [hoo]
    simp only [execOp, resolve, Sem.run_bind, Sem.run_pure, Result.andThen_ok, invoke]
    have he : Array.map e #[x, y] = #[e x, e y] := by simp
    rw [he]
    simp only [builtin, Sem.run_bind, Sem.run_pure]
  rw [← hoo] at ho
  clear hoo
  intro ρ C a w hr hs
  simp only [wpOpsIn, ho, wants_sound hs ops o, hw, if_true]
  refine ⟨fun _ _ => trivial, ?_⟩
  rcases append_fork (P := P) (args := #[sl, xt]) (ty := type) hs.rel rfl rfl hst hxt hni hsz hby hzo hzl hsrc hone hob hcl hb1 hb2 (hs.ev x _ hx) (hs.ev y _ hy) with hF | hF
  · obtain ⟨n1, v', w', C', hrun, hn, hR, hS, hv⟩ := hF.toN
    have hs' := hs.put (dst := o.dst) (dstOk_spec hdo) hR hS hv
    rw [← hdst] at h1
    have hnext : wpOpsIn (rf ρ) 0 P ops (Post W0 C st a.defers fun e s => e = .normal ∧ Q s) l (a.put o.dst v') w' :=
      Post.ops (st1 := ⟨tmPut st.tm o.dst (.slice (some ⟨b, 0, some tg⟩) (len + n) (len + n)), st.n, st.H.put b (.cells (cc ++ xs) size (some tg) false (some elem)), st.nx⟩) (df := a.defers) hS rfl (.of_eq (put_defers a o.dst v')) l ops _ w' (h1 ρ C' _ w' (hr.next hS) hs')
    rw [hsem, hexec, hrun]
    rcases hn with rfl | ⟨rfl, rfl⟩
    · exact hnext
    · exact hnext
  · obtain ⟨n1, v', w', C', hrun, hn, hR, hS, hv⟩ := hF.toN
    have hs' := hs.put (dst := o.dst) (dstOk_spec hdo) hR hS hv
    rw [← hdst] at h2
    have hnext : wpOpsIn (rf ρ) 0 P ops (Post W0 C st a.defers fun e s => e = .normal ∧ Q s) l (a.put o.dst v') w' :=
      Post.ops (st1 := ⟨tmPut st.tm o.dst (.slice (some ⟨st.nx, 0, some st.nx⟩) (len + n) (len + n)), st.n, st.H.put st.nx (.cells (cc ++ xs) size (some st.nx) false (some elem)), st.nx + 1⟩) (df := a.defers) hS rfl (.of_eq (put_defers a o.dst v')) l ops _ w' (h2 ρ C' _ w' (hr.next hS) hs')
    rw [hsem, hexec, hrun]
    rcases hn with rfl | ⟨rfl, rfl⟩
    · exact hnext
    · exact hnext
def OpsF (P : Program) (W0 : World) (ops : Array Oper) (l : List Oper) (st : ASt) (Q : ASt → Prop) : Prop := ∀ k, ops.toList.drop k = l → Ops P W0 ops (List.range' k l.length) st Q
theorem OpsF.of {ops : Array Oper} {l : List Oper} {Q : ASt → Prop} (h : OpsL P W0 ops l st Q) : OpsF P W0 ops l st Q := fun k hk => OpsL.ops l k st hk h
theorem OpsF.pre {ops : Array Oper} {Q : ASt → Prop} {l2 : List Oper} : ∀ (l : List Oper) (st : ASt), OpsL P W0 ops l st (fun s => OpsF P W0 ops l2 s Q) → OpsF P W0 ops (l ++ l2) st Q := by
  intro l
  induction l with
  | nil => intro st h; exact h
  | cons o l ih =>
    intro st h k hk
    have ho : ops[k]? = some o := by
      have : (ops.toList.drop k)[0]? = some o := by rw [hk]; rfl
      rw [List.getElem?_drop] at this
      simpa using this
    have hk' : ops.toList.drop (k + 1) = l ++ l2 := by
      rw [← List.drop_drop, hk]; rfl
    obtain ⟨hd, h⟩ := h
    rw [List.cons_append, List.length_cons, List.range'_succ]
    rcases h with ⟨hw, h⟩ | ⟨hw, ⟨v, e, hop, h⟩ | ⟨f, args, R, hc, hf, hcall, h⟩⟩
    · exact Ops.skip ho hw hd (ih _ h _ hk')
    · exact Ops.step ho hw hd hop (ih _ h _ hk')
    · exact Ops.call ho hw hd hc hf hcall fun v nx' H' hr => ih _ (h v nx' H' hr) _ hk'
theorem OpsF.at {ops : Array Oper} {l : List Oper} {Q : ASt → Prop} (m : Nat) (h : OpsL P W0 ops (l.take m) st (fun s => OpsF P W0 ops (l.drop m) s Q)) : OpsF P W0 ops l st Q := by
  have := OpsF.pre _ _ h
  rwa [List.take_append_drop] at this
theorem Trip.opsF {id : Nat} {ops : Array Oper} {Q : AExit → ASt → Prop} (h : OpsF P W0 ops ops.toList st (Q .normal)) : Trip P W0 (.region id ops false) st Q := by
  refine Trip.region ?_
  have := h 0 rfl
  rwa [Array.length_toList, ← List.range_eq_range'] at this
theorem OpsF.fork {ops : Array Oper} {l : List Oper} {Q : ASt → Prop} {tm : Nat → Value} {H : Heap} {nx n0 : Nat} {d : Tmp} {x y : Operand} {sl xt elem type : TypeId} {pos : String} {after : Array Edge} {xd : TypeDesc} {size bytes n len tg b cap : Nat} {z cc xs : List Value} {u : Value}
    (hd : d < n0) (hx : ASt.ev ⟨tm, n0, H, nx⟩ x = some (.slice (some ⟨b, 0, some tg⟩) len cap)) (hy : ASt.ev ⟨tm, n0, H, nx⟩ y = some u)
    (hst : P.underlying sl = some (.slice elem)) (hxt : P.underlying xt = some xd) (hni : notInt xd = true) (hsz : szOf P elem = some size) (hby : bytesOfT P elem = some bytes) (hzo : zeroOf P elem = some z) (hzl : z.length = size)
    (hsrc : source H size u none = some (n, xs)) (hone : xs.all (·.oneCell') = true) (hob : H b = some (.cells cc size (some tg) false (some elem))) (hcl : cc.length = len * size)
    (hb1 : len + n ≤ 1099511627776) (hb2 : (2 * (len + n) + 192) * bytes ≤ 281474976710656)
    (h1 : OpsF P W0 ops l ⟨tmPut tm (some d) (.slice (some ⟨b, 0, some tg⟩) (len + n) (len + n)), n0, H.put b (.cells (cc ++ xs) size (some tg) false (some elem)), nx⟩ Q)
    (h2 : OpsF P W0 ops l ⟨tmPut tm (some d) (.slice (some ⟨nx, 0, some nx⟩) (len + n) (len + n)), n0, H.put nx (.cells (cc ++ xs) size (some nx) false (some elem)), nx + 1⟩ Q) :
    OpsF P W0 ops (⟨some d, .call ⟨.builtin .append, #[x, y], #[sl, xt]⟩, type, pos, after, none⟩ :: l) ⟨tm, n0, H, nx⟩ Q := by
  intro k hk
  have ho : ops[k]? = some ⟨some d, .call ⟨.builtin .append, #[x, y], #[sl, xt]⟩, type, pos, after, none⟩ := by
    have : (ops.toList.drop k)[0]? = some ⟨some d, .call ⟨.builtin .append, #[x, y], #[sl, xt]⟩, type, pos, after, none⟩ := by rw [hk]; rfl
    rw [List.getElem?_drop] at this
    simpa using this
  have hk' : ops.toList.drop (k + 1) = l := by
    rw [← List.drop_drop, hk]; rfl
  rw [List.length_cons, List.range'_succ]
  exact Ops.fork (st := ⟨tm, n0, H, nx⟩) ho hd hx hy hst hxt hni hsz hby hzo hzl hsrc hone hob hcl hb1 hb2 (h1 _ hk') (h2 _ hk')
end
end Go.Am
namespace Go.Am
open Go.RowKit
def find1 (s : List Bool × List Int) (p : Int) : List Bool × List Int := if s.1.getD p.toNat false then s else (s.1.set p.toNat true, s.2 ++ [p])
def findS (s : List Bool × List Int) (l : List Int) : List Bool × List Int := l.foldl find1 s
theorem find1_len (s : List Bool × List Int) (p : Int) : (find1 s p).1.length = s.1.length := by
  unfold find1
  split <;> simp
theorem find1_len2 (s : List Bool × List Int) (p : Int) : (find1 s p).2.length ≤ s.2.length + 1 := by
  unfold find1
  split <;> simp
theorem findS_len (l : List Int) : ∀ s, (findS s l).1.length = s.1.length := by
  induction l with
  | nil => intro s; rfl
  | cons a l ih => intro s; exact (ih _).trans (find1_len s a)
theorem findS_len2 (l : List Int) : ∀ s, (findS s l).2.length ≤ s.2.length + l.length := by
  induction l with
  | nil => intro s; exact Nat.le_refl _
  | cons a l ih => intro s; have := ih (find1 s a); have := find1_len2 s a; simp only [List.length_cons]; show (findS (find1 s a) l).2.length ≤ _; omega
theorem findS_snoc {l : List Int} {i : Nat} (s : List Bool × List Int) (h : i < l.length) : findS s (l.take (i + 1)) = find1 (findS s (l.take i)) (l.getD i 0) := by
  unfold findS
  rw [List.take_succ_eq_append_getElem h, List.foldl_append, List.getD_eq_getElem?_getD (l := l), List.getElem?_eq_getElem h]
  rfl
def Kept (nx : Nat) (H H' : Heap) (bs : Nat → Prop) : Prop := ∀ k, k < nx → ¬ bs k → H' k = H k
def srchB (sb ib : Nat) (ob : Option (Nat × Nat)) (k : Nat) : Prop := k = sb ∨ k = ib ∨ ∃ t, ob = some (k, t)
end Go.Am
namespace Go.Proofs.Ytjgbcpagfghfnaa
open Go.Am Go.RowKit
def QueAt (H : Heap) (ob : Option (Nat × Nat)) (v : Value) (l : List Int) : Prop :=
  match ob with
  | none => v = .slice none 0 0 ∧ l = []
  | some (b, t) => v = .slice (some ⟨b, 0, some t⟩) l.length l.length ∧ H b = some (.cells (l.map (.int .i64 ·)) 1 (some t) false (some 3))
theorem QueAt.put {H : Heap} {ob : Option (Nat × Nat)} {v : Value} {l : List Int} {k : Nat} {o : AObj} (h : QueAt H ob v l) (hk : ∀ b t, ob = some (b, t) → b ≠ k) : QueAt (H.put k o) ob v l := by
  cases ob with
  | none => exact h
  | some bt => exact ⟨h.1, by rw [Heap.put_ne (hk _ _ rfl)]; exact h.2⟩
structure Srch (H : Heap) (sb ib : Nat) (ob : Option (Nat × Nat)) (qv : Value) (s : List Bool × List Int) : Prop where
  str : H sb = some (.cells [.slice (some ⟨ib, 0, none⟩) s.1.length s.1.length, qv] 0 none false (some 67))
  is : H ib = some (.cells (s.1.map .bool) 1 none false (some 4))
  qu : QueAt H ob qv s.2
  ne : sb ≠ ib
  obs : ∀ b t, ob = some (b, t) → b ≠ sb ∧ b ≠ ib
attribute [local irreducible] aop OpsL Trip blockExit OpsD OpsK OpsR OpsQ
theorem entersFind13 : Am.Enters Try.prog 39 := ⟨Try.f39, Try.func39, by kernel_rfl, by kernel_rfl⟩
set_option maxRecDepth 20000 in
set_option maxHeartbeats 16000000 in
theorem findC (W0 : World) {nx : Nat} {H : Heap} {sb ib : Nat} {ob : Option (Nat × Nat)} {qv lv : Value} {s : List Bool × List Int} {l : List Int} (hS : Srch H sb ib ob qv s) (hsb : sb < nx) (hib : ib < nx) (hob : ∀ b t, ob = some (b, t) → b < nx)
    (hl : ∀ H', Kept nx H H' (srchB sb ib ob) → IntsAt H' lv l) (hin : ∀ i, i < l.length → 0 ≤ l.getD i 0 ∧ l.getD i 0 < s.1.length) (hlen : s.2.length + l.length ≤ 1000000) :
    ACalls Try.prog W0 39 [.pointer (some ⟨sb, 0, none⟩), lv] nx H fun _ nx' H' => ∃ ob' qv', Srch H' sb ib ob' qv' (findS s l) ∧ (∀ b t, ob' = some (b, t) → b < nx' ∧ (nx ≤ b ∨ ob = some (b, t))) ∧ nx ≤ nx' ∧ Kept nx H H' (srchB sb ib ob) ∧ ∀ b t, ob = some (b, t) → ∃ more, H' b = some (.cells ((s.2 ++ more).map (.int .i64 ·)) 1 (some t) false (some 3)) := by
  refine ACalls.by_trip (fn := Try.f39) (c := _) Try.func39 rfl (fun tm n hn0 htm => ?_)
  have e0 : tm 0 = .pointer (some ⟨sb, 0, none⟩) := htm 0
  have e1 : tm 1 = lv := htm 1
  clear htm
  replace hn0 : n = 37 := hn0
  obtain ⟨la, lc, rfl⟩ := (hl H (fun _ _ _ => rfl)).slice
  repeat (first | (refine OpsL.q (by first | exact omv | exact olen) ?_) | (refine Trip.seq ?_) | (refine Trip.ops ?_) | (refine Trip.block ?_) | (refine OpsL.nil ?_; (change Trip _ _ _ _ _)))
  refine Trip.inv (fun (i : Nat) st => ∃ (tm : Nat → Value) (nx' : Nat) (F : Heap) (ob' : Option (Nat × Nat)) (qv' : Value), st = ⟨tm, n, F, nx'⟩ ∧ Srch F sb ib ob' qv' (findS s (l.take i)) ∧ (∀ b t, ob' = some (b, t) → b < nx' ∧ (nx ≤ b ∨ ob = some (b, t))) ∧ nx ≤ nx' ∧ Kept nx H F (srchB sb ib ob) ∧ (∀ b t, ob = some (b, t) → ∃ more, F b = some (.cells ((s.2 ++ more).map (.int .i64 ·)) 1 (some t) false (some 3))) ∧ tm 0 = .pointer (some ⟨sb, 0, none⟩) ∧ tm 6 = .slice la l.length lc ∧ tm 7 = .int .i64 l.length ∧ tm 8 = .int .i64 i ∧ i ≤ l.length) (fun i => l.length - i) 0 ?_ ?_
  · exact ⟨_, _, _, ob, _, rfl, hS, fun b t h => ⟨hob b t h, .inr h⟩, Nat.le_refl _, fun _ _ _ => rfl, fun b t h => ⟨[], by subst h; rw [List.append_nil]; exact hS.qu.2⟩, by simp [tmPut, *], by simp [tmPut, *], by simp [tmPut, *], by simp [tmPut, *], by omega⟩
  clear e0 e1
  rintro i st ⟨tm, nx', F, ob', qv', rfl, hs, hob', hnx, hk, hm, e0, e6, e7, e8, hi⟩
  repeat (first | (refine OpsL.q (by exact olss) ?_) | (refine Trip.seq ?_) | (refine Trip.ops ?_) | (refine Trip.block ?_) | (refine Trip.itA (fun _ => ?_) (fun _ => ?_)) | (refine Trip.skip ?_; (change Trip _ _ _ _ _)) | (refine OpsL.nil ?_; (change Trip _ _ _ _ _)))
  · have hlt : i < l.length := by omega
    obtain ⟨q, rfl, hc⟩ := IntsAt.atI (hl F hk) (show (0 : Int) ≤ i by omega) (show (i : Int) < l.length by omega)
    rw [Int.toNat_natCast] at hc
    obtain ⟨h0, h1⟩ := hin i hlt
    have hsn := findS_snoc s hlt
    have hl1 := findS_len (l.take i) s
    have hl2 := findS_len2 (l.take i) s
    rw [List.length_take] at hl2
    obtain ⟨a, ha⟩ : ∃ a, l.getD i 0 = a := ⟨_, rfl⟩
    rw [ha] at hc h0 h1 hsn
    generalize findS s (l.take i) = z at *
    obtain ⟨zi, zq⟩ := z
    simp only at hl1 hl2
    have c0 := cell_of (k := 0) hs.str rfl
    have c1 := cell_of (k := 1) hs.str rfl
    have hlt2 : a.toNat < zi.length := by omega
    have ci : cellAt F ⟨ib, 0 + a.toNat * 1, none⟩ (.bool (zi.getD a.toNat false)) := by
      rw [Nat.mul_one, Nat.zero_add]
      refine cell_of hs.is ?_
      rw [List.getElem?_map, List.getElem?_eq_getElem hlt2, List.getD_eq_getElem?_getD, List.getElem?_eq_getElem hlt2]
      rfl
    simp only at c0 c1 ci
    have hf1 : find1 (zi, zq) a = if zi.getD a.toNat false then (zi, zq) else (zi.set a.toNat true, zq ++ [a]) := rfl
    obtain ⟨b, hb⟩ : ∃ b, zi.getD a.toNat false = b := ⟨_, rfl⟩
    rw [hb] at ci hf1
    repeat (first | (refine OpsL.q (by first | exact omv | exact oasg | exact aop_nilCheck (by (first | (simp only [ASt.ev, tmPut, ↓reduceIte, Nat.reduceEqDiff, *]; rfl))) | exact ofa | exact oixa | exact old | exact onot) ?_) | (refine Trip.seq ?_) | (refine Trip.ops ?_) | (refine OpsL.nil ?_; (change Trip _ _ _ _ _)))
    cases b
    · refine Trip.ifT ?_
      repeat (first | (refine OpsL.q (by first | exact omv | exact aop_nilCheck (by (first | (simp only [ASt.ev, tmPut, ↓reduceIte, Nat.reduceEqDiff, *]; rfl))) | exact ofa | exact oixa | exact old) ?_) | (refine Trip.seq ?_) | (refine Trip.ops ?_))
      refine OpsL.storeAt (a := ⟨ib, 0 + a.toNat * 1, none⟩) (v := .bool true) (cs' := (zi.set a.toNat true).map .bool) a.toNat (by (first | (simp only [ASt.ev, tmPut, ↓reduceIte, Nat.reduceEqDiff, *]; rfl))) (by rfl) (by exact rfl) rfl rfl hs.is (by simp) (by simpa using hlt2) (by rw [List.map_set]) ?_
      refine OpsL.nil ?_
      (change Trip _ _ _ _ _)
      have hd := hs.obs
      have s1 : (F.put ib (.cells ((zi.set a.toNat true).map .bool) 1 none false (some 4))) sb = _ := (Heap.put_ne hs.ne).trans hs.str
      have i1 : (F.put ib (.cells ((zi.set a.toNat true).map .bool) 1 none false (some 4))) ib = _ := Heap.put_eq
      have q1 : QueAt (F.put ib (.cells ((zi.set a.toNat true).map .bool) 1 none false (some 4))) ob' qv' zq := QueAt.put hs.qu (fun b t h => (hd b t h).2)
      have k1 : Kept nx H (F.put ib (.cells ((zi.set a.toNat true).map .bool) 1 none false (some 4))) (srchB sb ib ob) := fun k hk' hb => by rw [Heap.put_ne (fun e => hb (.inr (.inl e))), hk k hk' hb]
      have m1 : ∀ b t, ob = some (b, t) → ∃ more, (F.put ib (.cells ((zi.set a.toNat true).map .bool) 1 none false (some 4))) b = some (.cells ((s.2 ++ more).map (.int .i64 ·)) 1 (some t) false (some 3)) := fun b t h => by rw [Heap.put_ne (hS.obs b t h).2]; exact hm b t h
      have hne := hs.ne
      clear c0 c1 ci hc hk hs hm
      generalize (F.put ib (.cells ((zi.set a.toNat true).map .bool) 1 none false (some 4))) = G at *
      have c1 := cell_of (k := 1) s1 rfl
      refine Trip.opsF ?_
      refine OpsF.at 7 ?_
      repeat (first | (refine OpsL.q (by first | exact omv | exact aop_nilCheck (by (first | (simp only [ASt.ev, tmPut, ↓reduceIte, Nat.reduceEqDiff, *]; rfl))) | exact ofa | exact old) ?_))
      refine OpsL.new (by subst_vars; decide) (aop_buildSlice1 (by (first | (simp only [ASt.ev, tmPut, ↓reduceIte, Nat.reduceEqDiff, *]; rfl))) (by exact rfl) (by exact rfl) (by exact rfl)) ?_
      refine OpsL.nil ?_
      have hg : (G.put nx' (.cells [.int .i64 a] 1 none false (some 3))) nx' = _ := Heap.put_eq
      have s3 := (Heap.put_ne (H := G) (o := .cells [.int .i64 a] 1 none false (some 3)) (show sb ≠ nx' by omega)).trans s1
      have i3 := (Heap.put_ne (H := G) (o := .cells [.int .i64 a] 1 none false (some 3)) (show ib ≠ nx' by omega)).trans i1
      cases ob' with
      | none =>
        obtain ⟨rfl, rfl⟩ := q1
        refine OpsF.of ?_
        refine OpsL.append (ob := none) (el := 3) (k := 0) (m := 1) (sz := 1) (bytes := 8) (z := [.int .i64 0]) (cs := []) (xs := [.int .i64 a]) (xd := .slice 3) (by subst_vars; decide) (by (first | (simp only [ASt.ev, tmPut, ↓reduceIte, Nat.reduceEqDiff, *]; done))) (by (first | (simp only [ASt.ev, tmPut, ↓reduceIte, Nat.reduceEqDiff, *]; rfl))) ⟨rfl, rfl, rfl⟩ (source_own hg rfl (by omega)) rfl (by omega) (by exact rfl) (by exact rfl) rfl (by exact rfl) (by exact rfl) (by exact rfl) rfl (by omega) (by omega) ?_
        rw [show blkOf (nx' + 1) none = nx' + 1 from rfl]
        have s4 := (Heap.put_ne (H := G.put nx' (.cells [.int .i64 a] 1 none false (some 3))) (o := .cells ([] ++ [.int .i64 a]) 1 (some (nx' + 1)) false (some 3)) (show sb ≠ nx' + 1 by omega)).trans s3
        have i4 := (Heap.put_ne (H := G.put nx' (.cells [.int .i64 a] 1 none false (some 3))) (o := .cells ([] ++ [.int .i64 a]) 1 (some (nx' + 1)) false (some 3)) (show ib ≠ nx' + 1 by omega)).trans i3
        repeat (first | (refine OpsL.q (by first | exact aop_nilCheck (by (first | (simp only [ASt.ev, tmPut, ↓reduceIte, Nat.reduceEqDiff, *]; rfl))) | exact ofa) ?_))
        refine OpsL.storeAt (a := ⟨sb, 0 + 1, none⟩) (v := .slice (some ⟨nx' + 1, 0, some (nx' + 1)⟩) (0 + 1) (0 + 1)) (cs' := [.slice (some ⟨ib, 0, none⟩) zi.length zi.length, .slice (some ⟨nx' + 1, 0, some (nx' + 1)⟩) (0 + 1) (0 + 1)]) 1 (by (first | (simp only [ASt.ev, tmPut, ↓reduceIte, Nat.reduceEqDiff, *]; rfl))) (by (first | (simp only [ASt.ev, tmPut, ↓reduceIte, Nat.reduceEqDiff, *]; done))) (by exact rfl) (by rfl) (by rfl) s4 (by simp) (by simp) (by simp) ?_
        repeat (first | (refine OpsL.q (by first | exact omv | exact oadd) ?_) | (refine Trip.ops ?_) | (refine OpsL.nil ?_; ((repeat (refine blockExit_normal ?_)); first | (change Trip _ _ _ _ _) | (dsimp only))))
        refine ⟨i + 1, ⟨_, _, _, some (nx' + 1, nx' + 1), .slice (some ⟨nx' + 1, 0, some (nx' + 1)⟩) (0 + 1) (0 + 1), rfl, ?_, ?_, by omega, ?_, ?_, by simp [tmPut, *], by simp [tmPut, *], by simp [tmPut, *], by simp [tmPut, *], by omega⟩, by omega⟩
        · rw [hsn, hf1]
          exact ⟨by rw [Heap.put_eq]; simp, by rw [Heap.put_ne hne.symm]; exact i4, ⟨by simp, by rw [Heap.put_ne (by omega), Heap.put_eq]; simp⟩, hne, fun b' t' h => by cases h; exact ⟨by omega, by omega⟩⟩
        · intro b' t' h
          cases h
          exact ⟨by omega, .inl (by omega)⟩
        · intro k hk' hb'
          have hk1 : k ≠ sb := fun e => hb' (.inl e)
          rw [Heap.put_ne hk1, Heap.put_ne (by omega), Heap.put_ne (by omega), k1 k hk' hb']
        · intro b0 t0 h
          obtain ⟨more, hmo⟩ := m1 b0 t0 h
          have ho1 := hS.obs b0 t0 h
          have ho2 := hob b0 t0 h
          exact ⟨more, by rw [Heap.put_ne ho1.1, Heap.put_ne (by omega), Heap.put_ne (by omega)]; exact hmo⟩
      | some bt =>
      obtain ⟨b, t⟩ := bt
      obtain ⟨rfl, q2⟩ := q1
      obtain ⟨hb1, hb2⟩ := hob' b t rfl
      obtain ⟨hb3, hb4⟩ := hd b t rfl
      have q3 := (Heap.put_ne (H := G) (o := .cells [.int .i64 a] 1 none false (some 3)) (show b ≠ nx' by omega)).trans q2
      refine OpsF.fork (xd := .slice 3) (z := [.int .i64 0]) (bytes := 8) (size := 1) (n := 1) (xs := [.int .i64 a]) (len := zq.length) (cc := zq.map (.int .i64 ·)) (by subst_vars; decide) (by (first | (simp only [ASt.ev, tmPut, ↓reduceIte, Nat.reduceEqDiff, *]; rfl))) (by (first | (simp only [ASt.ev, tmPut, ↓reduceIte, Nat.reduceEqDiff, *]; rfl))) (by exact rfl) (by exact rfl) (by exact rfl) (by exact rfl) (by exact rfl) (by exact rfl) rfl (source_own hg rfl (by omega)) rfl q3 (by simp) (by omega) (by omega) ?_ ?_
      · have s4 := (Heap.put_ne (H := G.put nx' (.cells [.int .i64 a] 1 none false (some 3))) (o := .cells (zq.map (.int .i64 ·) ++ [.int .i64 a]) 1 (some t) false (some 3)) hb3.symm).trans s3
        have i4 := (Heap.put_ne (H := G.put nx' (.cells [.int .i64 a] 1 none false (some 3))) (o := .cells (zq.map (.int .i64 ·) ++ [.int .i64 a]) 1 (some t) false (some 3)) hb4.symm).trans i3
        refine OpsF.of ?_
        repeat (first | (refine OpsL.q (by first | exact aop_nilCheck (by (first | (simp only [ASt.ev, tmPut, ↓reduceIte, Nat.reduceEqDiff, *]; rfl))) | exact ofa) ?_))
        refine OpsL.storeAt (a := ⟨sb, 0 + 1, none⟩) (v := .slice (some ⟨b, 0, some t⟩) (zq.length + 1) (zq.length + 1)) (cs' := [.slice (some ⟨ib, 0, none⟩) zi.length zi.length, .slice (some ⟨b, 0, some t⟩) (zq.length + 1) (zq.length + 1)]) 1 (by (first | (simp only [ASt.ev, tmPut, ↓reduceIte, Nat.reduceEqDiff, *]; rfl))) (by (first | (simp only [ASt.ev, tmPut, ↓reduceIte, Nat.reduceEqDiff, *]; done))) (by exact rfl) (by rfl) (by rfl) s4 (by simp) (by simp) (by simp) ?_
        repeat (first | (refine OpsL.q (by first | exact omv | exact oadd) ?_) | (refine Trip.ops ?_) | (refine OpsL.nil ?_; ((repeat (refine blockExit_normal ?_)); first | (change Trip _ _ _ _ _) | (dsimp only))))
        refine ⟨i + 1, ⟨_, _, _, some (b, t), .slice (some ⟨b, 0, some t⟩) (zq.length + 1) (zq.length + 1), rfl, ?_, ?_, by omega, ?_, ?_, by simp [tmPut, *], by simp [tmPut, *], by simp [tmPut, *], by simp [tmPut, *], by omega⟩, by omega⟩
        · rw [hsn, hf1]
          exact ⟨by rw [Heap.put_eq]; simp, by rw [Heap.put_ne hne.symm]; exact i4, ⟨by simp, by rw [Heap.put_ne (by omega), Heap.put_eq]; simp⟩, hne, fun b' t' h => by cases h; exact ⟨by omega, by omega⟩⟩
        · intro b' t' h
          cases h
          exact ⟨by omega, hb2⟩
        · intro k hk' hb'
          have hk1 : k ≠ sb := fun e => hb' (.inl e)
          have hk2 : k ≠ b := fun e => by
            rcases hb2 with h | h
            · omega
            · exact hb' (.inr (.inr ⟨t, by rw [e]; exact h⟩))
          rw [Heap.put_ne hk1, Heap.put_ne hk2, Heap.put_ne (by omega), k1 k hk' hb']
        · intro b0 t0 h
          obtain ⟨more, hmo⟩ := m1 b0 t0 h
          have ho1 := hS.obs b0 t0 h
          have ho2 := hob b0 t0 h
          by_cases hbb : b0 = b
          · subst hbb
            have e := Option.some.inj (q2.symm.trans hmo)
            injection e with e1 _ e3
            refine ⟨more ++ [a], ?_⟩
            rw [Heap.put_ne ho1.1, Heap.put_eq, e1, e3]
            simp
          · exact ⟨more, by rw [Heap.put_ne ho1.1, Heap.put_ne hbb, Heap.put_ne (by omega)]; exact hmo⟩
      · have s4 := (Heap.put_ne (H := G.put nx' (.cells [.int .i64 a] 1 none false (some 3))) (o := .cells (zq.map (.int .i64 ·) ++ [.int .i64 a]) 1 (some (nx' + 1)) false (some 3)) (show sb ≠ nx' + 1 by omega)).trans s3
        have i4 := (Heap.put_ne (H := G.put nx' (.cells [.int .i64 a] 1 none false (some 3))) (o := .cells (zq.map (.int .i64 ·) ++ [.int .i64 a]) 1 (some (nx' + 1)) false (some 3)) (show ib ≠ nx' + 1 by omega)).trans i3
        refine OpsF.of ?_
        repeat (first | (refine OpsL.q (by first | exact aop_nilCheck (by (first | (simp only [ASt.ev, tmPut, ↓reduceIte, Nat.reduceEqDiff, *]; rfl))) | exact ofa) ?_))
        refine OpsL.storeAt (a := ⟨sb, 0 + 1, none⟩) (v := .slice (some ⟨nx' + 1, 0, some (nx' + 1)⟩) (zq.length + 1) (zq.length + 1)) (cs' := [.slice (some ⟨ib, 0, none⟩) zi.length zi.length, .slice (some ⟨nx' + 1, 0, some (nx' + 1)⟩) (zq.length + 1) (zq.length + 1)]) 1 (by (first | (simp only [ASt.ev, tmPut, ↓reduceIte, Nat.reduceEqDiff, *]; rfl))) (by (first | (simp only [ASt.ev, tmPut, ↓reduceIte, Nat.reduceEqDiff, *]; done))) (by exact rfl) (by rfl) (by rfl) s4 (by simp) (by simp) (by simp) ?_
        repeat (first | (refine OpsL.q (by first | exact omv | exact oadd) ?_) | (refine Trip.ops ?_) | (refine OpsL.nil ?_; ((repeat (refine blockExit_normal ?_)); first | (change Trip _ _ _ _ _) | (dsimp only))))
        refine ⟨i + 1, ⟨_, _, _, some (nx' + 1, nx' + 1), .slice (some ⟨nx' + 1, 0, some (nx' + 1)⟩) (zq.length + 1) (zq.length + 1), rfl, ?_, ?_, by omega, ?_, ?_, by simp [tmPut, *], by simp [tmPut, *], by simp [tmPut, *], by simp [tmPut, *], by omega⟩, by omega⟩
        · rw [hsn, hf1]
          exact ⟨by rw [Heap.put_eq]; simp, by rw [Heap.put_ne hne.symm]; exact i4, ⟨by simp, by rw [Heap.put_ne (by omega), Heap.put_eq]; simp⟩, hne, fun b' t' h => by cases h; exact ⟨by omega, by omega⟩⟩
        · intro b' t' h
          cases h
          exact ⟨by omega, .inl (by omega)⟩
        · intro k hk' hb'
          have hk1 : k ≠ sb := fun e => hb' (.inl e)
          rw [Heap.put_ne hk1, Heap.put_ne (by omega), Heap.put_ne (by omega), k1 k hk' hb']
        · intro b0 t0 h
          obtain ⟨more, hmo⟩ := m1 b0 t0 h
          have ho1 := hS.obs b0 t0 h
          have ho2 := hob b0 t0 h
          exact ⟨more, by rw [Heap.put_ne ho1.1, Heap.put_ne (by omega), Heap.put_ne (by omega)]; exact hmo⟩
    · refine Trip.ifF ?_
      repeat (first | (refine OpsL.q (by first | exact omv | exact oadd) ?_) | (refine Trip.ops ?_) | (refine Trip.skip ?_; ((repeat (refine blockExit_normal ?_)); change Trip _ _ _ _ _)) | (refine OpsL.nil ?_; (dsimp only)))
      refine ⟨i + 1, ⟨_, _, _, ob', qv', rfl, by rw [hsn, hf1]; exact hs, hob', hnx, hk, hm, by simp [tmPut, *], by simp [tmPut, *], by simp [tmPut, *], by simp [tmPut, *], by omega⟩, by omega⟩
  · repeat (first | (refine Trip.exit ?_; ((repeat (refine blockExit_eq ?_)); dsimp only)))
    have hi2 : i = l.length := by omega
    subst hi2
    rw [List.take_length] at hs
    exact ⟨.inl rfl, _, rfl, ob', qv', hs, hob', hnx, hk, hm⟩
end Go.Proofs.Ytjgbcpagfghfnaa

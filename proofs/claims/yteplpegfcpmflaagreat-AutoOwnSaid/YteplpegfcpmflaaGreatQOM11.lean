import Derived.Test.YteplpegfcpmflaaGreatQOM10
set_option linter.unusedSimpArgs false
set_option linter.unusedVariables false
set_option maxRecDepth 100000
set_option maxHeartbeats 64000000
namespace Go.Am
open Go.RowKit
section
variable {P : Program} {H : Heap} {nx : Nat} {ev : Operand → Option Value} {dst : Option Tmp} {type : TypeId} {pos : String} {after : Array Edge} {guard : Option (Nat × Bool)}
theorem z7S {t : TypeId} {m k : Operand} {a b : Value} {r : Value × Eff} (hm : ev m = some a) (hk : ev k = some b) (h : z2x P H t a b = some r) : aop P H nx ev ⟨dst, .mapEntry t m k, type, pos, after, guard⟩ = some r := by simp [aop, hm, hk, h]
theorem z6s {t : TypeId} {m s x : Operand} {a b c : Value} {e : Eff} (hm : ev m = some a) (hs : ev s = some b) (hx : ev x = some c) (h : z1Z H a b c = some e) : aop P H nx ev ⟨dst, .entryStore t m s x, type, pos, after, guard⟩ = some (undef, e) := by simp [aop, hm, hs, hx, h]
end
theorem zdG {P : Program} {W0 : World} {ops : Array Oper} {H : Heap} {nx n d k : Nat} {op : Op} {type : TypeId} {pos : String} {after : Array Edge} {l : List Oper} {tm : Nat → Value} {QQ : ASt → Prop} {v : Value} {o : AObj} (hd : d < n) (hop : aop P H nx (ASt.ev ⟨tm, n, H, nx⟩) ⟨some d, op, type, pos, after, none⟩ = some (v, .upd k o)) (h : OpsL P W0 ops l ⟨zl tm (some d) v, n, H.put k o, nx⟩ QQ) : OpsL P W0 ops (⟨some d, op, type, pos, after, none⟩ :: l) ⟨tm, n, H, nx⟩ QQ :=
 zcK hd hop h
structure WE where
 k : Thg
 v : Value
 ob : Option (Nat × Nat)
 l : List R4
def weV (x : WE) : Value × Value := (thV x.k, x.v)
def z4v (ms : List R4) (t : Thg) : List R4 := ms.filter fun m => decide (t ∈ z08 m)
def z4w (ms : List R4) (m : R4) (j : Nat) (t : Thg) : List R4 := z4v ms t ++ if t ∈ (z08 m).take j then [m] else []
theorem zbB (ms : List R4) (m : R4) : z4w ms m 0 = z4v ms := by funext t; simp [z4w]
theorem zdd (ms : List R4) (m : R4) : z4w ms m 2 = z4v (ms ++ [m]) := by
 funext t;unfold z4w z4v;rw [List.filter_append];by_cases h : t ∈ z08 m
 ·simp [h, List.take_of_length_le (show (z08 m).length ≤ 2 from Nat.le_refl _)]
 ·simp [h, List.take_of_length_le (show (z08 m).length ≤ 2 from Nat.le_refl _)]
theorem zde (ms : List R4) (m : R4) (j : Nat) (t : Thg) : (z4w ms m j t).length ≤ ms.length + 1 := by
 unfold z4w z4v;have := List.length_filter_le (fun m => decide (t ∈ z08 m)) ms;rw [List.length_append];split <;> simp <;> omega
def zf0 (f : Thg → List R4) (t : Thg) (l : List R4) : Thg → List R4 := fun x => if x = t then l else f x
theorem zbC (ms : List R4) (m : R4) {j : Nat} (hj : j < 2) : z4w ms m (j + 1) = zf0 (z4w ms m j) ((z08 m)[j]'hj) (z4w ms m j ((z08 m)[j]'hj) ++ [m]) := by
 funext t;obtain ⟨a, b, c, d⟩ := m
 match j, hj with
 | 0, _ => by_cases h : t = (0, a) <;> simp [z4w, zf0, z08, h]
 | 1, _ =>
  by_cases h : t = (1, b)
  ·subst h; simp [z4w, zf0, z08]
  ·by_cases h2 : t = (0, a) <;> simp [z4w, zf0, z08, h, h2]
end Go.Am
namespace Go.Proofs.YteplpegfcpmflaaGreat
open Go.RowKit Go.Am
attribute [local irreducible] aop OpsL Trip zI z2r OpsK OpsR
theorem z4R : Am.z0O Tryz.prog 58 := ⟨Tryz.f58, Tryz.func58, by kernel_rfl, by kernel_rfl⟩
theorem zcU (H : Heap) (k : Thg) : ∀ (W : List WE) (i : Nat), k ∉ W.map (·.k) → z18 Tryz.prog H 101 (thV k) (W.map weV) i = some none := by
 intro W
 induction W with
 | nil => intro i _; rfl
 | cons t W ih =>
  intro i h;simp only [List.map_cons, List.mem_cons, not_or] at h;simp only [List.map_cons, weV, z18, zgp, decide_eq_false h.1];exact ih (i + 1) h.2
theorem zcT (H : Heap) : ∀ (W : List WE) (i j : Nat) (hj : j < W.length), (W.map (·.k)).Nodup → z18 Tryz.prog H 101 (thV W[j].k) (W.map weV) i = some (some (i + j, W[j].v)) := by
 intro W
 induction W with
 | nil => intro i j hj; simp at hj
 | cons t W ih =>
  intro i j hj hn;rw [List.map_cons, List.nodup_cons] at hn;cases j with
  | zero => simp only [List.map_cons, weV, z18, zgp, List.getElem_cons_zero, decide_true, Nat.add_zero]
  | succ j =>
   have hj' : j < W.length := by simpa using hj
   have hne : W[j].k ≠ t.k := fun e => hn.1 (by rw [← e]; exact List.mem_map.2 ⟨_, List.getElem_mem hj', rfl⟩);simp only [List.map_cons, weV, z18, zgp, List.getElem_cons_succ, decide_eq_false hne];rw [show i + (j + 1) = i + 1 + j by omega];exact ih (i + 1) j hj' hn.2
structure WaitIn (H : Heap) (base mr nx : Nat) (f : Thg → List R4) (W : List WE) : Prop where
 cell : H mr = some (.map (W.map weV) (List.range W.length) W.length)
 nodup : (W.map (·.k)).Nodup
 own : ∀ x ∈ W, zcp H x.ob x.v x.l
 val : ∀ x ∈ W, x.l = f x.k
 out : ∀ t, t ∉ W.map (·.k) → f t = []
 blk : ∀ x ∈ W, ∀ b t, x.ob = some (b, t) → base ≤ b ∧ b < nx ∧ b ≠ mr
 sep : ∀ (i j : Nat) (hi : i < W.length) (hj : j < W.length), i ≠ j → ∀ b t b' t', W[i].ob = some (b, t) → W[j].ob = some (b', t') → b ≠ b'
 hmr : base ≤ mr ∧ mr < nx
theorem WaitIn.ext {H H' : Heap} {base mr nx nx' : Nat} {f : Thg → List R4} {W : List WE} (h : WaitIn H base mr nx f W) (hx : Ext nx H nx' H') : WaitIn H' base mr nx' f W :=
 ⟨by rw [hx.2 mr h.hmr.2]; exact h.cell, h.nodup, fun x hm => OwnOf.ext hx (fun b t e => (h.blk x hm b t e).2.1) (h.own x hm), h.val, h.out, fun x hm b t e => by have := h.blk x hm b t e; have := hx.1; omega, h.sep, by have := h.hmr; have := hx.1; omega⟩
theorem WaitIn.entry {H : Heap} {base mr nx : Nat} {f : Thg → List R4} {W : List WE} (h : WaitIn H base mr nx f W) (t : Thg) :
  ∃ (W' : List WE) (j : Nat) (hj : j < W'.length), W'[j].k = t ∧ z2x Tryz.prog H 96 (.map (some mr)) (thV t) = some (.tuple #[W'[j].v, .int .i64 j], .upd mr (.map (W'.map weV) (List.range W'.length) W'.length)) ∧
   WaitIn (H.put mr (.map (W'.map weV) (List.range W'.length) W'.length)) base mr nx f W' ∧ ∀ x ∈ W', ∀ b t, x.ob = some (b, t) → ∃ y ∈ W, y.ob = some (b, t) := by
 obtain ⟨c1, c2, c3⟩ := z8k t H;have hrow : ∀ (W' : List WE), (∀ x ∈ W', ∀ b t, x.ob = some (b, t) → base ≤ b ∧ b < nx ∧ b ≠ mr) → ∀ x ∈ W', zcp H x.ob x.v x.l → zcp (H.put mr (.map (W'.map weV) (List.range W'.length) W'.length)) x.ob x.v x.l := fun W' hb x hx ho => OwnRow.same (fun b t e => za (hb x hx b t e).2.2) ho;by_cases hin : t ∈ W.map (·.k)
 ·obtain ⟨x, hx, hxk⟩ := List.mem_map.1 hin;obtain ⟨j, hj, hje⟩ := List.getElem_of_mem hx;have hk : W[j].k = t := by rw [hje]; exact hxk
  refine ⟨W, j, hj, hk, ?_, ⟨zb, h.nodup, fun x hx => hrow W h.blk x hx (h.own x hx), h.val, h.out, h.blk, h.sep, h.hmr⟩, fun x hx b t e => ⟨x, hx, e⟩⟩;have hf := zcT H W 0 j hj h.nodup;rw [hk, Nat.zero_add] at hf;have hes : (W.map weV)[j]? = some (thV t, W[j].v) := by rw [List.getElem?_map, List.getElem?_eq_getElem hj]; simp [weV, hk]
  have hbs : (List.range W.length)[j]? = some j := by rw [List.getElem?_range hj]
  have hset : (W.map weV).set j (thV t, W[j].v) = W.map weV := by
   apply List.ext_getElem?;intro i;rw [List.getElem?_set];split
   ·rename_i e;subst e;rw [hes];split
    ·rfl
    ·rename_i h'; simp at h'; omega
   ·rfl
  have hv : zP.veqk (thV t) (thV t) = true := by obtain ⟨a, b⟩ := t; simp [zP.veqk, thV, z1q, zP.eqs, zP.eq1]
  unfold z2x;simp only [Tryz.underlying96, h.cell, c1, c3, show (Tryz.prog.underlying 101).isSome = true from rfl, and_self, if_true, hf, hes, hbs, hv, hset];rfl
 ·have hk : (W ++ [(⟨t, .slice none 0 0, none, []⟩ : WE)]).length = W.length + 1 := by simp
  refine ⟨W ++ [⟨t, .slice none 0 0, none, []⟩], W.length, zom, by simp, ?_, ?_, fun x hx b t' e => ?_⟩
  rotate_left 2
  ·rcases List.mem_append.1 hx with hx | hx
   ·exact ⟨x, hx, e⟩
   ·rw [List.mem_singleton] at hx; subst hx; cases e
  ·have hf := zcU H t W 0 hin;unfold z2x;simp only [Tryz.underlying96, h.cell, c1, c3, show (Tryz.prog.underlying 101).isSome = true from rfl, and_self, if_true, hf, show z6A Tryz.prog 98 = some (.slice none 0 0) from rfl];simp [weV, List.range_succ];rfl
  ·have hbk : ∀ x ∈ W ++ [(⟨t, .slice none 0 0, none, []⟩ : WE)], ∀ b t, x.ob = some (b, t) → base ≤ b ∧ b < nx ∧ b ≠ mr := fun x hx b t' e => by
    rcases List.mem_append.1 hx with hx | hx
    ·exact h.blk x hx b t' e
    ·rw [List.mem_singleton] at hx; subst hx; cases e
   refine ⟨zb, ?_, fun x hx => hrow _ hbk x hx ?_, fun x hx => ?_, fun t' ht' => h.out t' fun hh => ht' (by rw [List.map_append]; exact List.mem_append.2 (.inl hh)), hbk, fun i j hi hj hij b tt b' tt' e1 e2 => ?_, h.hmr⟩
   ·rw [List.map_append, List.nodup_append];refine ⟨h.nodup, by simp, fun a ha b hb => ?_⟩;simp at hb;subst hb;exact fun e => hin (by rw [← e]; exact ha)
   ·rcases List.mem_append.1 hx with hx | hx
    ·exact h.own x hx
    ·rw [List.mem_singleton] at hx; subst hx; exact ⟨rfl, rfl, rfl⟩
   ·rcases List.mem_append.1 hx with hx | hx
    ·exact h.val x hx
    ·rw [List.mem_singleton] at hx; subst hx; exact (h.out t hin).symm
   ·by_cases hi' : i < W.length
    ·by_cases hj' : j < W.length
     ·rw [List.getElem_append_left hi'] at e1;rw [List.getElem_append_left hj'] at e2;exact h.sep i j hi' hj' hij b tt b' tt' e1 e2
     ·rw [List.getElem_append_right zom] at e2;simp at e2
    ·rw [List.getElem_append_right zom] at e1;simp at e1
theorem zbP (n j : Nat) (hj : j < n) : (List.range n).findIdx? (fun (b : Nat) => decide ((b : Int) = (j : Int))) = some j := by
 rw [List.findIdx?_eq_some_iff_getElem];refine ⟨by simpa using hj, by simp, fun i hi => ?_⟩;simp;omega
theorem WaitIn.store {H HA H1 : Heap} {base mr nx nxA nx1 : Nat} {f : Thg → List R4} {W : List WE} {j : Nat} (h : WaitIn H base mr nx f W) (hj : j < W.length) (hxA : Ext nx H nxA HA) {m : R4} {v' : Value} {ob' : Option (Nat × Nat)}
  (hA : AppO Go.Am.e4 4 106 nxA HA W[j].ob (W[j].l ++ [m]) v' nx1 H1 ob') :
  ∃ W', z1Z H1 (.map (some mr)) (.int .i64 j) v' = some (.upd mr (.map (W'.map weV) (List.range W'.length) W'.length)) ∧ WaitIn (H1.put mr (.map (W'.map weV) (List.range W'.length) W'.length)) base mr nx1 (zf0 f W[j].k (f W[j].k ++ [m])) W' ∧ (∀ i, i < base → H1 i = HA i) ∧ ∀ x ∈ W', ∀ b t, x.ob = some (b, t) → nxA ≤ b ∨ ∃ y ∈ W, ∃ t', y.ob = some (b, t') := by
 have hmr := h.hmr;have hle := hxA.1;have hle1 := hA.le;have hbj := h.blk _ (List.getElem_mem hj)
 have hnm : ∀ b t, ob' = some (b, t) → base ≤ b ∧ b < nx1 ∧ b ≠ mr ∧ (nxA ≤ b ∨ ∃ t', W[j].ob = some (b, t')) := fun b t e => by
  obtain ⟨q1, q2⟩ := hA.blk b t e;rcases q2 with rfl | ⟨t', h'⟩
  ·exact ⟨zom, q1, zom, .inl (Nat.le_refl _)⟩
  ·have := hbj _ _ h'; exact ⟨this.1, q1, this.2.2, .inr ⟨t', h'⟩⟩
 have hcell : H1 mr = some (.map (W.map weV) (List.range W.length) W.length) := by
  rw [hA.same mr zom (fun b t e => (hbj b t e).2.2.symm), hxA.2 mr hmr.2];exact h.cell
 refine ⟨W.set j ⟨W[j].k, v', ob', W[j].l ++ [m]⟩, ?_, ?_, fun i hi => hA.same i zom (fun b t e => by have := (hbj b t e).1; omega), fun x hx b t e => ?_⟩
 rotate_left 2
 ·rcases List.mem_or_eq_of_mem_set hx with hx | rfl
  ·exact .inr ⟨x, hx, t, e⟩
  ·rcases (hnm b t e).2.2.2 with hq | ⟨t2, hq⟩
   ·exact .inl hq
   ·exact .inr ⟨_, List.getElem_mem hj, t2, hq⟩
 ·have hes : (W.map weV)[j]? = some (thV W[j].k, W[j].v) := by rw [List.getElem?_map, List.getElem?_eq_getElem hj]; rfl
  unfold z1Z;simp only [hcell, zbP _ _ hj, hes, List.length_set, List.map_set];rfl
 ·have hkeys : (W.set j (⟨W[j].k, v', ob', W[j].l ++ [m]⟩ : WE)).map (·.k) = W.map (·.k) := by
   rw [List.map_set];apply List.ext_getElem?;intro i;rw [List.getElem?_set];split
   ·rename_i e;subst e;rw [List.getElem?_map, List.getElem?_eq_getElem hj];simp [hj]
   ·rfl
  have hget : ∀ (i : Nat) (hi : i < (W.set j (⟨W[j].k, v', ob', W[j].l ++ [m]⟩ : WE)).length), (i = j ∧ (W.set j (⟨W[j].k, v', ob', W[j].l ++ [m]⟩ : WE))[i] = ⟨W[j].k, v', ob', W[j].l ++ [m]⟩) ∨ (i ≠ j ∧ (W.set j (⟨W[j].k, v', ob', W[j].l ++ [m]⟩ : WE))[i] = W[i]'(by simpa using hi)) := fun i hi => by
   rw [List.getElem_set];by_cases e : j = i
   ·exact .inl ⟨e.symm, by rw [if_pos e]⟩
   ·exact .inr ⟨fun e' => e e'.symm, by rw [if_neg e]⟩
  have hpm : ∀ {x : WE} , zcp H1 x.ob x.v x.l → (∀ b t, x.ob = some (b, t) → b ≠ mr) → ∀ o, zcp (H1.put mr o) x.ob x.v x.l := fun {x} h1 h2 o => OwnRow.same (fun b t e => za (h2 b t e)) h1;refine ⟨zb, by rw [hkeys]; exact h.nodup, fun x hx => ?_, fun x hx => ?_, fun t ht => ?_, fun x hx b t e => ?_, fun a c ha hc hac b t b' t' e1 e2 => ?_, zom⟩
  ·obtain ⟨i, hi, rfl⟩ := List.getElem_of_mem hx;have hi' : i < W.length := by simpa using hi
   rcases hget i hi with ⟨e, hg⟩ | ⟨e, hg⟩
   ·rw [hg]; exact hpm (x := ⟨W[j].k, v', ob', W[j].l ++ [m]⟩) hA.own (fun b t e => (hnm b t e).2.2.1) _
   ·rw [hg];refine hpm ?_ (fun b t e => (h.blk _ (List.getElem_mem hi') b t e).2.2) _;refine OwnRow.same (fun b t e1 => ?_) (h.own _ (List.getElem_mem hi'));have hb := h.blk _ (List.getElem_mem hi') b t e1;rw [hA.same b zom (fun b' t' e2 => h.sep i j hi' hj e b t b' t' e1 e2), hxA.2 b hb.2.1]
  ·obtain ⟨i, hi, rfl⟩ := List.getElem_of_mem hx;have hi' : i < W.length := by simpa using hi
   rcases hget i hi with ⟨e, hg⟩ | ⟨e, hg⟩
   ·rw [hg];simp [zf0, h.val _ (List.getElem_mem hj)]
   ·rw [hg, h.val _ (List.getElem_mem hi')]
    have hne : W[i].k ≠ W[j].k := fun ek => by
     have h1 : (W.map (·.k))[i]'(by simpa using hi') = W[i].k := by simp
     have h2 : (W.map (·.k))[j]'(by simpa using hj) = W[j].k := by simp
     have hp := List.pairwise_iff_getElem.1 h.nodup;rcases Nat.lt_or_gt_of_ne e with hl | hl
     ·exact hp i j (by simpa using hi') (by simpa using hj) hl (by rw [h1, h2]; exact ek)
     ·exact hp j i (by simpa using hj) (by simpa using hi') hl (by rw [h1, h2]; exact ek.symm)
    simp [zf0, hne]
  ·rw [hkeys] at ht;have hne : t ≠ W[j].k := fun e => ht (by rw [e]; exact List.mem_map.2 ⟨_, List.getElem_mem hj, rfl⟩);simp [zf0, hne, h.out t ht]
  ·obtain ⟨i, hi, rfl⟩ := List.getElem_of_mem hx;have hi' : i < W.length := by simpa using hi
   rcases hget i hi with ⟨e', hg⟩ | ⟨e', hg⟩
   ·rw [hg] at e; have := hnm b t e; exact ⟨this.1, this.2.1, this.2.2.1⟩
   ·rw [hg] at e; have := h.blk _ (List.getElem_mem hi') b t e; exact ⟨this.1, zom, this.2.2⟩
  ·have ha' : a < W.length := by simpa using ha
   have hc' : c < W.length := by simpa using hc
   rcases hget a ha with ⟨ea, ga⟩ | ⟨ea, ga⟩ <;> rcases hget c hc with ⟨ec, gc⟩ | ⟨ec, gc⟩
   ·omega
   ·rw [ga] at e1; rw [gc] at e2;have hb2 := h.blk _ (List.getElem_mem hc') b' t' e2;rcases (hnm b t e1).2.2.2 with hq | ⟨t2, hq⟩
    ·omega
    ·exact h.sep j c hj hc' (fun e => ec e.symm) b t2 b' t' hq e2
   ·rw [ga] at e1; rw [gc] at e2;have hb2 := h.blk _ (List.getElem_mem ha') b t e1;rcases (hnm b' t' e2).2.2.2 with hq | ⟨t2, hq⟩
    ·omega
    ·exact h.sep a j ha' hj ea b t b' t2 e1 hq
   ·rw [ga] at e1; rw [gc] at e2;exact h.sep a c ha' hc' hac b t b' t' e1 e2
theorem zaX (W0 : World) {nx : Nat} {H : Heap} {v : Value} {ms : List R4} (hr : RowsAt Go.Am.e4 4 H v ms) (hm : ms.length ≤ 3000) :
  ACalls Tryz.prog W0 58 [v] nx H fun v' nx' H' => ∃ W, v' = .map (some nx) ∧ WaitIn H' nx nx nx' (z4v ms) W ∧ Ext nx H nx' H' := by
 obtain ⟨va, vc, rfl⟩ := hr.slice;refine zm (fn := Tryz.f58) (c := _) Tryz.func58 rfl (fun tm n hn0 htm => ?_);have q0 : tm 0 = .slice va ms.length vc := htm 0;clear htm;replace hn0 : n = 31 := hn0;refine Trip.ok fun hok => ?_;replace hok : ∀ id o, H id = some o → id < nx := hok;refine z9q ?_;refine OpsL.new zsd z2b ?_;have hx0 : Ext nx H (nx + 1) (H.put nx (.map [] [] 0)) := zj;have hok0 := zF (o := .map [] [] 0) hok;have hw0 : WaitIn (H.put nx (.map [] [] 0)) nx nx (nx + 1) (z4v []) [] := ⟨zb, List.nodup_nil, fun x h => (by cases h), fun x h => (by cases h), fun _ _ => rfl, fun x h => (by cases h), fun i j hi => by simp at hi, ⟨Nat.le_refl _, Nat.lt_succ_self _⟩⟩;generalize H.put nx (.map [] [] 0) = G at *;refine zaF ?_;refine zu (fun (i : Nat) st => ∃ (tm' : Nat → Value) (nx' : Nat) (H' : Heap) (W : List WE), st = ⟨tm', n, H', nx'⟩ ∧ Ext nx H nx' H' ∧ (∀ id o, H' id = some o → id < nx') ∧ WaitIn H' nx nx nx' (z4v (ms.take i)) W ∧ tm' 3 = .map (some nx) ∧ tm' 9 = .slice va ms.length vc ∧ tm' 10 = .int .i64 ms.length ∧ tm' 11 = .int .i64 i ∧ i ≤ ms.length) (fun i => ms.length - i) 0 ?_ ?_
 ·exact ⟨_, _, _, [], rfl, hx0, hok0, hw0, stp, stp, stp, stp, Nat.zero_le _⟩
 ·clear q0;rintro i st ⟨tm, nx', H', W, rfl, hx, hok', hw, q3, q9, q10, q11, hi⟩;by_cases hlt : i < ms.length
  ·obtain ⟨p, rfl, g⟩ := zX (hr.ext hx hok) hlt;have hst : ms.take (i + 1) = ms.take i ++ [ms[i]] := List.take_succ_eq_append_getElem hlt;have hmr := hw.hmr.2;generalize ms[i] = m at *;refine zcq ?_;refine zd (zg (k := 4) (vs := Go.Am.e4 m) evr zxr rfl zxr g) ?_;refine OpsL.new zsd (zD (l := rep 4 [.int .i64 0]) zxr) ?_;refine OpsL.upd (zw (k := 4) (u := .agg (Go.Am.e4 m).toArray) evd evd zxr rfl (o := .cells (Go.Am.e4 m) 0 none false (some 106)) (zE (vs := Go.Am.e4 m) zb rfl rfl)) ?_;obtain ⟨G4, hG4⟩ : ∃ G4, G4 = (H'.put nx' (.cells (rep 4 [.int .i64 0]) 0 none false (some 106))).put nx' (.cells (Go.Am.e4 m) 0 none false (some 106)) := ⟨_, rfl⟩;have hx4 : Ext nx' H' (nx' + 1) G4 := ⟨Nat.le_succ _, fun j hj => by rw [hG4, za zom, za zom]⟩;have hok4 : ∀ id o, G4 id = some o → id < nx' + 1 := by rw [hG4]; exact zV (zF hok') zb
   have hb4 : G4 nx' = some (.cells (Go.Am.e4 m) 0 none false (some 106)) := by rw [hG4, zb]
   first | rw [← hG4] | skip
   clear hG4;refine zfk ?_;refine zd (zg (k := 4) (vs := Go.Am.e4 m) evd zxr rfl zxr (zH hb4 rfl)) ?_;refine z0c (hf := z6g) (hc := (zfb W0 m).ok) (h := ?_);rintro v1 n1 H1 ⟨⟨rfl, x1⟩, ok1⟩;have hx1 := (hx.trans hx4).trans x1;have hw1 := (hw.ext hx4).ext x1;have hb1 : H1 nx' = some (.cells (Go.Am.e4 m) 0 none false (some 106)) := (x1.2 nx' (Nat.lt_succ_self _)).trans hb4;have hob1 : ∀ x ∈ W, ∀ b t, x.ob = some (b, t) → b ≠ nx' := fun x hx b t e => by have := hw.blk x hx b t e; omega
   have hle1 := x1.1;have hn2 : (z08 m).length = 2 := rfl;clear hw hb4 hx4 x1 hok4 g
   repeat (first | refine zd (by exact omv) ?_ | refine Trip.block ?_ | (refine OpsL.nil ?_; (change Trip _ _ _ _ _)))
   refine Trip.mono (Q := fun e st => e = .exit 2 ∧ ∃ (tm' : Nat → Value) (nx2 : Nat) (H2 : Heap) (W2 : List WE), st = ⟨tm', n, H2, nx2⟩ ∧ Ext nx H nx2 H2 ∧ (∀ id o, H2 id = some o → id < nx2) ∧ WaitIn H2 nx nx nx2 (z4w (ms.take i) m 2) W2 ∧ tm' 3 = .map (some nx) ∧ tm' 9 = .slice (some p) ms.length vc ∧ tm' 10 = .int .i64 ms.length ∧ tm' 11 = .int .i64 i) ?_ ?_
   ·refine zu (fun (j : Nat) st => ∃ (tm' : Nat → Value) (nx2 : Nat) (H2 : Heap) (W2 : List WE), st = ⟨tm', n, H2, nx2⟩ ∧ Ext nx H nx2 H2 ∧ (∀ id o, H2 id = some o → id < nx2) ∧ WaitIn H2 nx nx nx2 (z4w (ms.take i) m j) W2 ∧ (∀ x ∈ W2, ∀ b t, x.ob = some (b, t) → b ≠ nx') ∧ H2 nx' = some (.cells (Go.Am.e4 m) 0 none false (some 106)) ∧ nx' < nx2 ∧
     tm' 3 = .map (some nx) ∧ tm' 5 = .pointer (some ⟨nx', 0, none⟩) ∧ tm' 16 = .agg (z5i (z08 m)).toArray ∧ tm' 17 = .int .i64 j ∧ j ≤ 2 ∧ tm' 9 = .slice (some p) ms.length vc ∧ tm' 10 = .int .i64 ms.length ∧ tm' 11 = .int .i64 i) (fun j => 2 - j) 0 ?_ ?_
    ·exact ⟨_, _, _, W, rfl, hx1, ok1, by rw [zbB]; exact hw1, hob1, hb1, zom, stp, stp, stp, stp, Nat.zero_le _, stp, stp, stp⟩
    ·clear q3 q9 q10 q11 hw1 hb1 hob1 hx1 ok1;rintro j st ⟨tm, nx2, H2, W2, rfl, hx2, ok2, hw2, hob2, hb2, hlt2, q3, q5, q16, q17, hj, q9, q10, q11⟩;by_cases hj2 : j < 2
     ·have hp := zaZ (z08 m) hn2 hj2;have hms := zbC (ms.take i) m hj2;generalize hte : (z08 m)[j]'zom = t at *;refine zgA ?_;refine zfx ?_;refine zd (z78 (len := 2) (e := 101) (sz := 2) (v := thV t) evr evr zxr zxr zom zom (by show z0C _ _ (z5i (z08 m)) ((j : Int).toNat * 2) = _; rw [Int.toNat_natCast]; exact hp)) ?_;refine OpsL.new zsd (zD (l := rep 2 [.int .i64 0]) krf) ?_;refine OpsL.upd (zw (k := 2) (u := thV t) evd evd zxr rfl (o := .cells (z1q t) 0 none false (some 101)) (zE (vs := z1q t) zb rfl rfl)) ?_;obtain ⟨G5, hG5⟩ : ∃ G5, G5 = (H2.put nx2 (.cells (rep 2 [.int .i64 0]) 0 none false (some 101))).put nx2 (.cells (z1q t) 0 none false (some 101)) := ⟨_, rfl⟩;have hx5 : Ext nx2 H2 (nx2 + 1) G5 := ⟨Nat.le_succ _, fun j hj => by rw [hG5, za zom, za zom]⟩;have ok5 : ∀ id o, G5 id = some o → id < nx2 + 1 := by rw [hG5]; exact zV (zF ok2) zb
      have hb5 : G5 nx2 = some (.cells (z1q t) 0 none false (some 101)) := by rw [hG5, zb]
      first | rw [← hG5] | skip
      clear hG5;have hbm5 : G5 nx' = some (.cells (Go.Am.e4 m) 0 none false (some 106)) := (hx5.2 nx' hlt2).trans hb2
      repeat (first | refine zd (by exact omv) ?_ | refine zk ?_ | (refine OpsL.nil ?_; (change Trip _ _ _ _ _)))
      refine zd (zg (k := 2) (vs := z1q t) evd zxr rfl zxr (zH hb5 rfl)) ?_;refine zd (zg (k := 4) (vs := Go.Am.e4 m) evd zxr rfl zxr (zH hbm5 rfl)) ?_;refine OpsL.new zsd (zq (l := [(0, .agg (Go.Am.e4 m).toArray)]) (r := (.slice (some ⟨nx2 + 1, 0, none⟩) 1 1, .new (.cells (Go.Am.e4 m) 4 none false (some 106)))) zeq krf) ?_;have hx6 : Ext (nx2 + 1) G5 (nx2 + 1 + 1) (G5.put (nx2 + 1) (.cells (Go.Am.e4 m) 4 none false (some 106))) := zj;have ok6 := zF (o := .cells (Go.Am.e4 m) 4 none false (some 106)) ok5;have g6 : (G5.put (nx2 + 1) (.cells (Go.Am.e4 m) 4 none false (some 106))) (nx2 + 1) = some (.cells (Go.Am.e4 m) 4 none false (some 106)) := zb;generalize G5.put (nx2 + 1) (.cells (Go.Am.e4 m) 4 none false (some 106)) = G6 at *;have hw6 := (hw2.ext hx5).ext hx6;have hmr2 := hw2.hmr.2;obtain ⟨W3, j3, hj3, hk3, he3, hw3, hobs3⟩ := hw6.entry t;have hle6 : nx2 + 1 + 1 = nx2 + 2 := rfl;refine zdG zsd (z7S evd evr he3) ?_;have hHA : ∀ q, q ≠ nx → (G6.put nx (.map (W3.map weV) (List.range W3.length) W3.length)) q = G6 q := fun q hq => za hq;have okA := zV (o := .map (W3.map weV) (List.range W3.length) W3.length) ok6 hw6.cell;generalize G6.put nx (.map (W3.map weV) (List.range W3.length) W3.length) = HA at *
      have hone : RowsAt Go.Am.e4 4 HA (.slice (some ⟨nx2 + 1, 0, none⟩) 1 1) [m] := by
       refine .inr ⟨⟨nx2 + 1, 0, none⟩, 1, rfl, fun q hq => ?_⟩;have : q = 0 := by simpa using hq
       subst this;exact zH ((hHA (nx2 + 1) zom).trans g6) rfl
      have hbmA : HA nx' = some (.cells (Go.Am.e4 m) 0 none false (some 106)) := by rw [hHA nx' zom, hx6.2 nx' zom]; exact hbm5
      have hl3 : (W3[j3].l).length ≤ 3001 := by
       have h1 := hw3.val _ (List.getElem_mem hj3);have h2 := zde (ms.take i) m j W3[j3].k;rw [h1];rw [List.length_take] at h2;omega
      have hblk3 := hw3.blk _ (List.getElem_mem hj3);clear he3 g6 hb5 hbm5
      repeat (first | (refine zd (by exact zR evr zxr) ?_))
      refine zO (bytes := 32) (z := rep 4 [.int .i64 0]) z0X z5m zom zsd (hw3.own _ (List.getElem_mem hj3)) hone evr evd (fun b t h => by have := hblk3 b t h; omega) zxr zxr zxr zxr zxr rfl (by simp; omega) zom ?_;intro v7 nx7 H7 ob7 hA7;obtain ⟨W4, he4, hw4, hf4, hobs4⟩ := hw3.store hj3 Ext.refl hA7;have hle7 := hA7.le;have hc7 : H7 nx = some (.map (W3.map weV) (List.range W3.length) W3.length) := (hA7.same nx zom (fun b t e => (hblk3 b t e).2.2.symm)).trans hw3.cell;have ok7 := hA7.ok (fun b t h => by have := hblk3 b t h; omega) okA
      have hob3 : ∀ b t, W3[j3].ob = some (b, t) → nx' ≠ b := fun b t e => by
       obtain ⟨y, hy, hye⟩ := hobs3 _ (List.getElem_mem hj3) b t e;exact (hob2 y hy b t hye).symm
      have hb7 : H7 nx' = some (.cells (Go.Am.e4 m) 0 none false (some 106)) := (hA7.same nx' zom hob3).trans hbmA;rw [hk3, ← hms] at hw4
      repeat (first | (refine zd (by exact zR evr zxr) ?_))
      refine OpsL.upd (z6s evd evr evd he4) ?_;refine zgo ?_;refine ⟨j + 1, ⟨_, nx7, _, W4, rfl, ⟨by have := hx2.1; omega, fun q hq => ?_⟩, zV ok7 hc7, hw4, fun x hx b t e => ?_, ?_, zom, stp, stp, stp, stp, zom, stp, stp, stp⟩, zom⟩
      ·show Heap.put H7 nx _ q = _;have := hx2.1;rw [za zom, hf4 q hq, hHA q zom, hx6.2 q zom, hx5.2 q zom, hx2.2 q hq]
      ·rcases hobs4 x hx b t e with h | ⟨y, hy, t2, hye⟩
       ·omega
       ·obtain ⟨z, hz, hze⟩ := hobs3 y hy b t2 hye;exact hob2 z hz b t2 hze
      ·show Heap.put H7 nx _ nx' = _;rw [za zom];exact hb7
     ·have h2 : j = 2 := by omega
      subst h2;refine z4e ?_;exact ⟨rfl, _, nx2, H2, W2, rfl, hx2, ok2, hw2, stp, stp, stp, stp⟩
   ·clear q3 q9 q10 q11;rintro e st ⟨rfl, tm', nx2, H2, W2, rfl, hx2, ok2, hw2, q3, q9, q10, q11⟩
    ((repeat (first | refine zY ?_ | refine zQ ?_)); change Trip _ _ _ _ _)
    rw [zdd, ← hst] at hw2
    repeat (first | (refine zd (by first | exact omv | exact z5G) ?_) | refine zk ?_ | (refine OpsL.nil ?_; (dsimp only)))
    exact ⟨i + 1, ⟨_, nx2, H2, W2, rfl, hx2, ok2, hw2, stp, stp, stp, stp, zom⟩, zom⟩
  ·have hin : i = ms.length := by omega
   subst hin;rw [List.take_length] at hw;refine zcl ?_;refine z9w ?_;exact ⟨.inr rfl, _, zy, W, stp, hw, hx⟩
end Go.Proofs.YteplpegfcpmflaaGreat
namespace Go.Am
inductive ReachT (a : Aut) : Thg → Prop
 | bot : ReachT a (1, 0)
 | init {s : Int} : s ∈ a.init → ReachT a (0, s)
 | step {m : R4} {t : Thg} : m ∈ z0b a → (∀ u ∈ z08 m, ReachT a u) → t ∈ z0t m → ReachT a t
def z8a (a : Aut) : List Thg := (1, 0) :: a.init.map (fun s => ((0, s) : Thg)) ++ (z0b a).flatMap z0t
structure FindI (a : Aut) (F todo : List Thg) : Prop where
 sound : ∀ t, t ∈ F ∨ t ∈ todo → ReachT a t
 bot : (1, 0) ∈ F ∨ (1, 0) ∈ todo
 init : ∀ s ∈ a.init, (0, s) ∈ F ∨ (0, s) ∈ todo
 closed : ∀ m ∈ z0b a, (∀ u ∈ z08 m, u ∈ F) → ∀ t ∈ z0t m, t ∈ F ∨ t ∈ todo
 nodup : F.Nodup
 uni : ∀ t ∈ todo, t ∈ z8a a
structure FindJ (a : Aut) (F todo : List Thg) (rest : List R4) : Prop where
 sound : ∀ t, t ∈ F ∨ t ∈ todo → ReachT a t
 bot : (1, 0) ∈ F ∨ (1, 0) ∈ todo
 init : ∀ s ∈ a.init, (0, s) ∈ F ∨ (0, s) ∈ todo
 closed : ∀ m ∈ z0b a, (∀ u ∈ z08 m, u ∈ F) → m ∉ rest → ∀ t ∈ z0t m, t ∈ F ∨ t ∈ todo
 nodup : F.Nodup
 uni : ∀ t ∈ todo, t ∈ z8a a
 sub : ∀ m ∈ rest, m ∈ z0b a
theorem zaB (a : Aut) : FindI a [] ((1, 0) :: a.init.map (fun s => ((0, s) : Thg))) where
 sound t h := by
  rcases h with h | h
  ·cases h
  ·rcases List.mem_cons.1 h with rfl | h
   ·exact .bot
   ·obtain ⟨s, hs, rfl⟩ := List.mem_map.1 h;exact .init hs
 bot := .inr List.mem_cons_self
 init s hs := .inr (List.mem_cons_of_mem _ (List.mem_map.2 ⟨s, hs, rfl⟩))
 closed m _ h := absurd (h (0, m.1) List.mem_cons_self) (by simp)
 nodup := List.nodup_nil
 uni t h := List.mem_append.2 (.inl h)
theorem FindI.old {a : Aut} {F todo : List Thg} {t : Thg} (h : FindI a F (todo ++ [t])) (ht : t ∈ F) : FindI a F todo := by
 have key : ∀ x, x ∈ F ∨ x ∈ todo ++ [t] → x ∈ F ∨ x ∈ todo := fun x hx => by
  rcases hx with hx | hx
  ·exact .inl hx
  ·rcases List.mem_append.1 hx with hx | hx
   ·exact .inr hx
   ·rw [List.mem_singleton] at hx; subst hx; exact .inl ht
 exact ⟨fun x hx => h.sound x (hx.imp id fun q => List.mem_append.2 (.inl q)), key _ h.bot, fun s hs => key _ (h.init s hs), fun m hm hu x hx => key _ (h.closed m hm hu x hx), h.nodup, fun x hx => h.uni x (List.mem_append.2 (.inl hx))⟩
theorem FindI.fresh {a : Aut} {F todo : List Thg} {t : Thg} (h : FindI a F (todo ++ [t])) (ht : t ∉ F) : FindJ a (F ++ [t]) todo (z4v (z0b a) t) := by
 have key : ∀ x, x ∈ F ∨ x ∈ todo ++ [t] → x ∈ F ++ [t] ∨ x ∈ todo := fun x hx => by
  rcases hx with hx | hx
  ·exact .inl (List.mem_append.2 (.inl hx))
  ·rcases List.mem_append.1 hx with hx | hx
   ·exact .inr hx
   ·exact .inl (List.mem_append.2 (.inr hx))
 refine ⟨fun x hx => h.sound x ?_, key _ h.bot, fun s hs => key _ (h.init s hs), fun m hm hu hr x hx => ?_, ?_, fun x hx => h.uni x (List.mem_append.2 (.inl hx)), fun m hm => (List.mem_filter.1 hm).1⟩
 ·rcases hx with hx | hx
  ·rcases List.mem_append.1 hx with hx | hx
   ·exact .inl hx
   ·exact .inr (List.mem_append.2 (.inr hx))
  ·exact .inr (List.mem_append.2 (.inl hx))
 ·have htm : t ∉ z08 m := fun hh => hr (List.mem_filter.2 ⟨hm, by simpa using hh⟩);refine key _ (h.closed m hm (fun u hum => ?_) x hx);rcases List.mem_append.1 (hu u hum) with q | q
  ·exact q
  ·rw [List.mem_singleton] at q; subst q; exact absurd hum htm
 ·rw [List.nodup_append];refine ⟨h.nodup, by simp, fun x hx y hy => ?_⟩;rw [List.mem_singleton] at hy;subst hy;exact fun e => ht (e ▸ hx)
theorem FindJ.yes {a : Aut} {F todo : List Thg} {m : R4} {rest : List R4} (h : FindJ a F todo (m :: rest)) (hu : ∀ u ∈ z08 m, u ∈ F) : FindJ a F (todo ++ z0t m) rest := by
 have hm := h.sub m List.mem_cons_self;have key : ∀ x, x ∈ F ∨ x ∈ todo → x ∈ F ∨ x ∈ todo ++ z0t m := fun x hx => hx.imp id fun q => List.mem_append.2 (.inl q);refine ⟨fun x hx => ?_, key _ h.bot, fun s hs => key _ (h.init s hs), fun m' hm' hu' hr x hx => ?_, h.nodup, fun x hx => ?_, fun m' hm' => h.sub m' (List.mem_cons_of_mem _ hm')⟩
 ·rcases hx with hx | hx
  ·exact h.sound x (.inl hx)
  ·rcases List.mem_append.1 hx with hx | hx
   ·exact h.sound x (.inr hx)
   ·exact .step hm (fun u hum => h.sound u (.inl (hu u hum))) hx
 ·by_cases e : m' = m
  ·subst e; exact .inr (List.mem_append.2 (.inr hx))
  ·exact key _ (h.closed m' hm' hu' (fun q => (List.mem_cons.1 q).elim e hr) x hx)
 ·rcases List.mem_append.1 hx with hx | hx
  ·exact h.uni x hx
  ·exact List.mem_append.2 (.inr (List.mem_flatMap.2 ⟨m, hm, hx⟩))
theorem FindJ.no {a : Aut} {F todo : List Thg} {m : R4} {rest : List R4} (h : FindJ a F todo (m :: rest)) (hu : ¬ ∀ u ∈ z08 m, u ∈ F) : FindJ a F todo rest :=
 ⟨h.sound, h.bot, h.init, fun m' hm' hu' hr x hx => h.closed m' hm' hu' (fun q => (List.mem_cons.1 q).elim (fun e => hu (e ▸ hu')) hr) x hx, h.nodup, h.uni, fun m' hm' => h.sub m' (List.mem_cons_of_mem _ hm')⟩
theorem FindJ.end {a : Aut} {F todo : List Thg} (h : FindJ a F todo []) : FindI a F todo := ⟨h.sound, h.bot, h.init, fun m hm hu x hx => h.closed m hm hu (by simp) x hx, h.nodup, h.uni⟩
theorem FindI.all {a : Aut} {F : List Thg} (h : FindI a F []) (t : Thg) : t ∈ F ↔ ReachT a t := by
 have key : ∀ x, x ∈ F ∨ x ∈ ([] : List Thg) → x ∈ F := fun x hx => hx.resolve_right (by simp);refine ⟨fun q => h.sound t (.inl q), fun q => ?_⟩
 induction q with
 | bot => exact key _ h.bot
 | init hs => exact key _ (h.init _ hs)
 | step hm _ hx ih => exact key _ (h.closed _ hm ih _ hx)
def muF (a : Aut) (F todo : List Thg) : Nat := ((z8a a).filter fun t => decide (t ∉ F)).length * (2 * (z0b a).length + 1) + todo.length
theorem za1 {l : List Thg} {F : List Thg} {t : Thg} (ht : t ∈ l) (hF : t ∉ F) : (l.filter fun x => decide (x ∉ F ++ [t])).length + 1 ≤ (l.filter fun x => decide (x ∉ F)).length := by
 induction l with
 | nil => cases ht
 | cons y l ih =>
  have hle : ∀ l : List Thg, (l.filter fun x => decide (x ∉ F ++ [t])).length ≤ (l.filter fun x => decide (x ∉ F)).length := fun l => by
   induction l with
   | nil => simp
   | cons z l ih =>
    rw [List.filter_cons, List.filter_cons];by_cases h1 : z ∈ F
    ·rw [if_neg (by simp [h1]), if_neg (by simp [h1])]; exact ih
    ·by_cases h2 : z = t
     ·rw [if_neg (by simp [h2]), if_pos (by simp [h1])]; rw [List.length_cons]; omega
     ·rw [if_pos (by simp [h1, h2]), if_pos (by simp [h1])]; rw [List.length_cons, List.length_cons]; omega
  rw [List.filter_cons, List.filter_cons];rcases List.mem_cons.1 ht with rfl | hm
  ·rw [if_neg (by simp), if_pos (by simpa using hF), List.length_cons];have := hle l;omega
  ·have := ih hm;by_cases h1 : y ∈ F
   ·rw [if_neg (by simp [h1]), if_neg (by simp [h1])]; exact this
   ·by_cases h2 : y = t
    ·rw [if_neg (by simp [h2]), if_pos (by simp [h1]), List.length_cons]; omega
    ·rw [if_pos (by simp [h1, h2]), if_pos (by simp [h1]), List.length_cons, List.length_cons]; omega
theorem zfX (a : Aut) (F todo : List Thg) (t : Thg) : muF a F todo + 1 = muF a F (todo ++ [t]) := by unfold muF; rw [List.length_append, List.length_singleton]; omega
theorem zfY {a : Aut} {F todo todo' : List Thg} {t : Thg} (ht : t ∈ z8a a) (hF : t ∉ F) (hl : todo'.length ≤ todo.length + 2 * (z0b a).length) : muF a (F ++ [t]) todo' + 1 ≤ muF a F (todo ++ [t]) := by
 have h1 := za1 ht hF;unfold muF
 have h2 : ((z8a a).filter fun x => decide (x ∉ F ++ [t])).length * (2 * (z0b a).length + 1) + (2 * (z0b a).length + 1) ≤ ((z8a a).filter fun x => decide (x ∉ F)).length * (2 * (z0b a).length + 1) := by
  have := Nat.mul_le_mul_right (2 * (z0b a).length + 1) h1;rw [Nat.add_mul, Nat.one_mul] at this;exact this
 rw [List.length_append, List.length_singleton];omega
end Go.Am
namespace Go.Proofs.YteplpegfcpmflaaGreat
open Go.RowKit Go.Am
theorem WaitIn.framed {H H' : Heap} {base mr nx nx' : Nat} {f : Thg → List R4} {W : List WE} (h : WaitIn H base mr nx f W) (hF : ∀ j, base ≤ j → j < nx → H' j = H j) (hle : nx ≤ nx') : WaitIn H' base mr nx' f W :=
 ⟨by rw [hF mr h.hmr.1 h.hmr.2]; exact h.cell, h.nodup, fun x hm => OwnRow.same (fun b t e => by have := h.blk x hm b t e; exact hF b this.1 this.2.1) (h.own x hm), h.val, h.out, fun x hm b t e => by have := h.blk x hm b t e; omega, h.sep, by have := h.hmr; omega⟩
theorem WaitIn.tells {H : Heap} {base mr nx : Nat} {f : Thg → List R4} {W : List WE} (h : WaitIn H base mr nx f W) (t : Thg) : ∃ r, ∀ (H' : Heap) (nx' : Nat), WaitIn H' base mr nx' f W → z1U Tryz.prog H' 96 (.map (some mr)) (thV t) false = some r ∧ RowsAt Go.Am.e4 4 H' r (f t) := by
 by_cases hin : t ∈ W.map (·.k)
 ·obtain ⟨x, hx, hxk⟩ := List.mem_map.1 hin;obtain ⟨j, hj, hje⟩ := List.getElem_of_mem hx;have hk : W[j].k = t := by rw [hje]; exact hxk
  refine ⟨W[j].v, fun H' nx' h' => ?_⟩;obtain ⟨c1, c2, c3⟩ := z8k t H';have hmo : z4z H' (.map (some mr)) = some (W.map weV) := by simp only [z4z, h'.cell]
  have hf := zcT H' W 0 j hj h'.nodup;rw [hk] at hf;refine ⟨?_, ?_⟩
  ·unfold z1U;simp only [Tryz.underlying96, hmo, show z6A Tryz.prog 98 = some (.slice none 0 0) from rfl, c1, show (Tryz.prog.underlying 101).isSome = true from rfl, and_self, if_true, hf];rfl
  ·rw [← hk, ← h'.val _ (List.getElem_mem hj)];exact (h'.own _ (List.getElem_mem hj)).at z0X
 ·refine ⟨.slice none 0 0, fun H' nx' h' => ?_⟩;obtain ⟨c1, c2, c3⟩ := z8k t H';have hmo : z4z H' (.map (some mr)) = some (W.map weV) := by simp only [z4z, h'.cell]
  refine ⟨?_, ?_⟩
  ·unfold z1U;simp only [Tryz.underlying96, hmo, show z6A Tryz.prog 98 = some (.slice none 0 0) from rfl, c1, show (Tryz.prog.underlying 101).isSome = true from rfl, and_self, if_true, zcU H' t W 0 hin];rfl
  ·rw [h'.out t hin]; exact .inl ⟨0, rfl, rfl⟩
end Go.Proofs.YteplpegfcpmflaaGreat
namespace Go.Proofs.YteplpegfcpmflaaGreat
open Go.RowKit Go.Am
attribute [local irreducible] aop OpsL Trip zI z2r OpsK OpsR
abbrev z8j (H : Heap) (ob : Option (Nat × Nat)) (v : Value) (l : List Thg) : Prop := OwnOf z1q 2 101 H ob v l
theorem zc0 : Am.z0O Tryz.prog 25 := ⟨Tryz.f25, Tryz.func25, by kernel_rfl, by kernel_rfl⟩
def z5U (a : Aut) : List Thg := (1, 0) :: a.init.map (fun s => ((0, s) : Thg))
theorem z3Y {a : Aut} (hn : AutLen a) : (z0b a).length ≤ 3000 := by
 have h1 := hn.opens;have h2 := hn.closes;have h3 := hn.inners;simp only [z0b, List.length_append, List.length_map];omega
theorem zdf {H : Heap} {b : Nat} : z0E Tryz.prog H 108 (.pointer (some ⟨b, 0, none⟩)) none none none = some (.slice (some ⟨b, 0, none⟩) 2 2) := by
 unfold z0E;simp only [Tryz.underlying108, show z1w Tryz.prog 101 = some 2 from rfl, if_true];rfl
theorem ze7 {H : Heap} {b : Nat} {p : List Thg} {q : Option TypeId} (hp : p.length = 2) (h : H b = some (.cells (z5i p) 0 none false q)) : RowsAt z1q 2 H (.slice (some ⟨b, 0, none⟩) p.length 2) p := by
 refine .inr ⟨⟨b, 0, none⟩, 2, rfl, fun j hj => ?_⟩;have hf := z53 z1F p j hj;have hl := z0j z1F p;unfold z0A;simp only [h];rw [if_pos ⟨trivial, by unfold z5i; rw [hl]; omega⟩];unfold z5i;rw [Nat.zero_add, hf]
theorem z6X {α : Type} {enc : α → List Value} {sz : Nat} (hk : ∀ x, (enc x).length = sz) {H : Heap} {b t : Nat} {el : TypeId} {l : List α} {rest : List Value} {i : Nat} (hH : H b = some (.cells (l.flatMap enc ++ rest) sz (some t) false (some el))) (hi : i < l.length) : z0A H ⟨b, 0 + i * sz, some t⟩ sz = some (enc l[i]) := by
 have hfl := z0j hk l;have hle : (i + 1) * sz ≤ l.length * sz := Nat.mul_le_mul_right sz hi;rw [Nat.add_mul, Nat.one_mul] at hle;unfold z0A;simp only [hH];rw [if_pos ⟨trivial, by rw [List.length_append, hfl]; omega⟩, Nat.zero_add, List.drop_append_of_le_length (by rw [hfl]; omega), List.take_append_of_le_length (by rw [List.length_drop, hfl]; omega), z53 hk l i hi]
theorem zfV {H : Heap} {b t : Nat} {l : List Thg} {x : Thg} {v : Value} (h : z8j H (some (b, t)) v (l ++ [x])) : z8j H (some (b, t)) (.slice (some ⟨b, 0 + 0 * 2, some t⟩) (l.length - 0) (l.length - 0)) l := by
 obtain ⟨_, _, rest, ho⟩ := h;refine ⟨by simp, by rw [z0j z1F], z1q x ++ rest, ?_⟩;rw [ho, List.flatMap_append, List.append_assoc];simp
theorem zis (W0 : World) {nx : Nat} {H : Heap} {a : Aut} {vi vf vo vc vn : Value} (ha : AutIn H a vi vf vo vc vn) (hn : AutLen a) (hi0 : a.init ≠ []) (hmu : muF a [] (z5U a) ≤ 100000) :
  ACalls Tryz.prog W0 25 [.agg (zz a vi vf vo vc vn).toArray] nx H fun v nx' H' => ∃ (m : Nat) (F : List Thg), v = .map (some m) ∧ H' m = some (.map (F.map fun t => (thV t, .agg #[])) (List.range F.length) F.length) ∧ F.Nodup ∧ (∀ t, t ∈ F ↔ ReachT a t) ∧ nx ≤ m ∧ m < nx' ∧ Ext nx H nx' H' := by
 obtain ⟨ai, ci, rfl⟩ := ha.init.slice;obtain ⟨af, cf, rfl⟩ := ha.final.slice;obtain ⟨ao, co, rfl⟩ := ha.opens.slice;obtain ⟨ac, cc, rfl⟩ := ha.closes.slice;obtain ⟨an, cn, rfl⟩ := ha.inners.slice;refine zm (fn := Tryz.f25) (c := _) Tryz.func25 rfl (fun tm n hn0 htm => ?_);have q0 : tm 0 = .agg (zz a (.slice ai a.init.length ci) (.slice af a.final.length cf) (.slice ao a.opens.length co) (.slice ac a.closes.length cc) (.slice an a.inners.length cn)).toArray := htm 0;clear htm;replace hn0 : n = 75 := hn0;refine Trip.ok fun hok => ?_;replace hok : ∀ id o, H id = some o → id < nx := hok;refine z5h ?_;refine OpsL.new zsd (z0a evr) ?_;have hx0 : Ext nx H (nx + 1) (H.put nx (.cells (Value.agg (zz a (.slice ai a.init.length ci) (.slice af a.final.length cf) (.slice ao a.opens.length co) (.slice ac a.closes.length cc) (.slice an a.inners.length cn)).toArray).cells.toList 0 none false (some 30))) := zj;have gx : (H.put nx (.cells (Value.agg (zz a (.slice ai a.init.length ci) (.slice af a.final.length cf) (.slice ao a.opens.length co) (.slice ac a.closes.length cc) (.slice an a.inners.length cn)).toArray).cells.toList 0 none false (some 30))) nx = some (.cells (zz a (.slice ai a.init.length ci) (.slice af a.final.length cf) (.slice ao a.opens.length co) (.slice ac a.closes.length cc) (.slice an a.inners.length cn)) 0 none false (some 30)) := zb;have ok0 := zF (o := .cells (Value.agg (zz a (.slice ai a.init.length ci) (.slice af a.final.length cf) (.slice ao a.opens.length co) (.slice ac a.closes.length cc) (.slice an a.inners.length cn)).toArray).cells.toList 0 none false (some 30)) hok;generalize H.put nx (.cells (Value.agg (zz a (.slice ai a.init.length ci) (.slice af a.final.length cf) (.slice ao a.opens.length co) (.slice ac a.closes.length cc) (.slice an a.inners.length cn)).toArray).cells.toList 0 none false (some 30)) = G at *;refine z9q ?_;refine OpsL.new zsd z2b ?_;have hx1 : Ext (nx + 1) G (nx + 1 + 1) (G.put (nx + 1) (.map [] [] 0)) := zj;have gm : (G.put (nx + 1) (.map [] [] 0)) (nx + 1) = some (.map [] [] 0) := zb;have ok1 := zF (o := .map [] [] 0) ok0;generalize G.put (nx + 1) (.map [] [] 0) = G1 at *;have gx1 := (hx1.2 nx zom).trans gx;have ha1 := ha.ext (hx0.trans hx1) hok
 repeat fail
 refine zd (zg (k := 7) (vs := zz a (.slice ai a.init.length ci) (.slice af a.final.length cf) (.slice ao a.opens.length co) (.slice ac a.closes.length cc) (.slice an a.inners.length cn)) evd zxr rfl zxr (zH gx1 rfl)) ?_;refine z0c (hf := z6h) (hc := (zfc W0 ha1 hn).ok) (h := ?_);rintro v1 n1 H1 ⟨⟨ob1, w1, x1, b1⟩, ok1'⟩;refine z0c (hf := z4R) (hc := (zaX W0 (w1.at z0X) (z3Y hn)).ok) (h := ?_);rintro v2 n2 H2 ⟨⟨W, rfl, hw, x2⟩, ok2⟩;have hle1 := x1.1;have hle2 := x2.1;have gm2 : H2 (nx + 1) = some (.map [] [] 0) := by rw [x2.2 _ zom, x1.2 _ zom]; exact gm
 have gx2 : H2 nx = some (.cells (zz a (.slice ai a.init.length ci) (.slice af a.final.length cf) (.slice ao a.opens.length co) (.slice ac a.closes.length cc) (.slice an a.inners.length cn)) 0 none false (some 30)) := by rw [x2.2 _ zom, x1.2 _ zom]; exact gx1
 have ha2 := ha1.ext (x1.trans x2) ok1;have hxH : Ext nx H n2 H2 := ((hx0.trans hx1).trans x1).trans x2;clear gx gx1 gm w1 b1 ha ha1 x1 x2 hx0 hx1 ok0 ok1 ok1';refine z9q ?_;refine zd (zC (v := thV (1, 0)) (l := [(0, .int .i64 1), (1, .int .i64 0)]) zep krf) ?_;refine OpsL.new zsd (zq (l := [(0, thV (1, 0))]) (r := (.slice (some ⟨n2, 0, none⟩) 1 1, .new (.cells (z1q (1, 0)) 2 none false (some 101)))) zeq krf) ?_;have x3 : Ext n2 H2 (n2 + 1) (H2.put n2 (.cells (z1q (1, 0)) 2 none false (some 101))) := zj;have gt : (H2.put n2 (.cells (z1q (1, 0)) 2 none false (some 101))) n2 = some (.cells (z1q (1, 0)) 2 none false (some 101)) := zb;have ok3 := zF (o := .cells (z1q (1, 0)) 2 none false (some 101)) ok2;generalize H2.put n2 (.cells (z1q (1, 0)) 2 none false (some 101)) = G3 at *;have gx3 := (x3.2 nx zom).trans gx2;have gm3 := (x3.2 (nx + 1) zom).trans gm2;have ha3 := ha2.ext x3 ok2;have hw3 := hw.ext x3;have ci0 : zh G3 ⟨nx, 0 + 2, none⟩ (.slice ai a.init.length ci) := by rw [Nat.zero_add]; exact ze gx3 rfl
 have hli := hn.init;clear gx2 gm2 hw ha2 ok2;refine zfB ?_;refine Trip.mono (Q := fun e st => e = .exit 0 ∧ ∃ (tm' : Nat → Value) (nx' : Nat) (H' : Heap) (ob : Option (Nat × Nat)) (v : Value), st = ⟨tm', n, H', nx'⟩ ∧ Ext (n2 + 1) G3 nx' H' ∧ (∀ id o, H' id = some o → id < nx') ∧ z8j H' ob v (z5U a) ∧ (∀ b t, ob = some (b, t) → n2 + 1 ≤ b ∧ b < nx') ∧ tm' 3 = .map (some (nx + 1)) ∧ tm' 4 = .map (some n1) ∧ tm' 5 = v) ?_ ?_
 ·refine zu (fun (i : Nat) st => ∃ (tm' : Nat → Value) (nx' : Nat) (H' : Heap) (ob : Option (Nat × Nat)) (v : Value), st = ⟨tm', n, H', nx'⟩ ∧ Ext (n2 + 1) G3 nx' H' ∧ (∀ id o, H' id = some o → id < nx') ∧ (i = 0 → v = .slice (some ⟨n2, 0, none⟩) 1 1 ∧ ob = none) ∧ (0 < i → z8j H' ob v ((1, 0) :: (a.init.take i).map (fun s => ((0, s) : Thg)))) ∧ (∀ b t, ob = some (b, t) → n2 + 1 ≤ b ∧ b < nx') ∧ tm' 3 = .map (some (nx + 1)) ∧ tm' 4 = .map (some n1) ∧ tm' 5 = v ∧ tm' 21 = .slice ai a.init.length ci ∧ tm' 22 = .int .i64 a.init.length ∧ tm' 23 = .int .i64 i ∧ i ≤ a.init.length) (fun i => a.init.length - i) 0 ?_ ?_
  ·exact ⟨_, _, _, none, _, rfl, Ext.refl, ok3, fun _ => ⟨rfl, rfl⟩, fun h => absurd h zom, fun _ _ h => (by cases h), stp, stp, stp, stp, stp, stp, Nat.zero_le _⟩
  ·rintro i st ⟨tm, nx', H', ob, v, rfl, hx, hok', hz, hp, hob, q3, q4, q5, q21, q22, q23, hi⟩;by_cases hlt : i < a.init.length
   ·obtain ⟨p, hp0, g⟩ := z0g (ha3.init.ext hx ok3) hlt;subst hp0;have hst : (a.init.take (i + 1)).map (fun s => ((0, s) : Thg)) = (a.init.take i).map (fun s => ((0, s) : Thg)) ++ [(0, a.init[i])] := by rw [List.take_succ_eq_append_getElem hlt, List.map_append]; rfl
    generalize a.init[i] = s at *;have hle := hx.1;refine zfp ?_;refine zd (zC (v := thV (0, s)) (l := [(0, .int .i64 0), (1, .int .i64 s)]) zep krf) ?_;refine OpsL.new zsd (zq (l := [(0, thV (0, s))]) (r := (.slice (some ⟨nx', 0, none⟩) 1 1, .new (.cells (z1q (0, s)) 2 none false (some 101)))) zeq krf) ?_;have x5 : Ext nx' H' (nx' + 1) (H'.put nx' (.cells (z1q (0, s)) 2 none false (some 101))) := zj;have ok5 := zF (o := .cells (z1q (0, s)) 2 none false (some 101)) hok'
    have hone : RowsAt z1q 2 (H'.put nx' (.cells (z1q (0, s)) 2 none false (some 101))) (.slice (some ⟨nx', 0, none⟩) 1 1) [((0, s) : Thg)] := by
     refine .inr ⟨⟨nx', 0, none⟩, 1, rfl, fun j hj => ?_⟩;have : j = 0 := by simpa using hj
     subst this;exact z01 (by show 0 + 2 ≤ 2; decide)
    generalize H'.put nx' (.cells (z1q (0, s)) 2 none false (some 101)) = G5 at *;by_cases hi1 : i = 0
    ·obtain ⟨rfl, rfl⟩ := hz hi1;subst hi1;have hg : G5 n2 = some (.cells (z1q (1, 0)) 2 none false (some 101)) := by rw [x5.2 n2 zom, hx.2 n2 zom]; exact gt
     have hsrc : z3x G5 2 (.slice (some ⟨nx', 0, none⟩) 1 1) none = some (1, z1q (0, s)) := by have := z7u z1F zom hone; simpa using this
     refine OpsL.new zsd (z3O (b := n2) (k := 1) (m := 1) (sz := 2) (bytes := 16) (z := [.int .i64 0, .int .i64 0]) evd evd hg rfl hsrc (z7B _) (by decide) zxr zxr zxr zxr zxr zxr rfl (by decide) (by decide)) ?_;refine zg7 ?_;refine ⟨0 + 1, ⟨_, _, _, some (nx' + 1, nx' + 1), _, rfl, ⟨zom, fun j hj => ?_⟩, zF ok5, fun h => absurd h zom, fun _ => ⟨rfl, by simp [hst, z1q], [], ?_⟩, fun b t h => by cases h; omega, stp, stp, stp, stp, stp, stp, zom⟩, zom⟩
     ·rw [za zom, x5.2 j zom, hx.2 j hj]
     ·rw [zb, hst]; simp
    ·have hown := hp zom;have hzl : ((1, 0) :: (a.init.take i).map (fun s => ((0, s) : Thg))).length ≤ 2000 := by rw [List.length_cons, List.length_map, List.length_take]; omega
     have hst2 : ((1, 0) : Thg) :: (a.init.take (i + 1)).map (fun s => ((0, s) : Thg)) = ((1, 0) :: (a.init.take i).map (fun s => ((0, s) : Thg))) ++ [(0, s)] := by rw [hst]; rfl
     clear hst hp hz;generalize ((1, 0) :: (a.init.take i).map (fun s => ((0, s) : Thg))) = zs at *;refine zO (bytes := 16) (z := rep 2 [.int .i64 0]) z1F z7B zom zsd (OwnOf.ext x5 (fun b t h => (hob b t h).2) hown) hone evd evd (fun b t h => by have := (hob b t h).2; omega) zxr zxr zxr zxr zxr rfl (by simp; omega) zom ?_;intro v8 nx8 H8 ob8 hA8;refine zg7 ?_;refine ⟨i + 1, ⟨_, nx8, H8, ob8, v8, rfl, ⟨by have := hA8.le; omega, fun j hj => ?_⟩, hA8.ok (fun b t h => by have := (hob b t h).2; omega) ok5, fun h => absurd h zom, fun _ => ?_, fun b t h => ?_, stp, stp, stp, stp, stp, stp, zom⟩, zom⟩
     ·rw [hA8.same j zom (fun b t h => by have := (hob b t h).1; omega), x5.2 j zom, hx.2 j hj]
     ·rw [hst2]; exact hA8.own
     ·obtain ⟨q1, q2⟩ := hA8.blk b t h;refine ⟨?_, q1⟩;rcases q2 with rfl | ⟨t', h'⟩
      ·omega
      ·exact (hob _ _ h').1
   ·have hin : i = a.init.length := by omega
    subst hin;have hpos : 0 < a.init.length := List.length_pos_iff.2 hi0;have hown := hp hpos;rw [List.take_length] at hown;refine z4e ?_;exact ⟨rfl, _, _, _, ob, v, rfl, hx, hok', hown, hob, stp, stp, stp⟩
 ·rintro e st ⟨rfl, tm', n4, H4, ob4, v4, rfl, hx4, ok4, hown4, hob4, q3, q4, q5⟩;refine z4r ?_;have hle4 := hx4.1;have hFr : ∀ j, j < n2 + 1 → j ≠ nx + 1 → H4 j = G3 j := fun j hj _ => hx4.2 j hj;have hc4 : H4 (nx + 1) = some (.map (([] : List Thg).map fun t => (thV t, .agg #[])) (List.range ([] : List Thg).length) ([] : List Thg).length) := (hx4.2 _ zom).trans gm3;clear gt ci0 hx4
  repeat (first | refine Trip.seq ?_ | refine Trip.block ?_)
  refine zu (fun (p : List Thg × List Thg) st => ∃ (tm' : Nat → Value) (nx' : Nat) (H' : Heap) (ob : Option (Nat × Nat)) (v : Value), st = ⟨tm', n, H', nx'⟩ ∧ n2 + 1 ≤ nx' ∧ (∀ j, j < n2 + 1 → j ≠ nx + 1 → H' j = G3 j) ∧ (∀ id o, H' id = some o → id < nx') ∧ H' (nx + 1) = some (.map (p.1.map fun t => (thV t, .agg #[])) (List.range p.1.length) p.1.length) ∧ z8j H' ob v p.2 ∧ (∀ b t, ob = some (b, t) → n2 + 1 ≤ b ∧ b < nx') ∧ FindI a p.1 p.2 ∧ muF a p.1 p.2 ≤ 100000 ∧ tm' 3 = .map (some (nx + 1)) ∧ tm' 4 = .map (some n1) ∧ tm' 5 = v) (fun p => muF a p.1 p.2) ([], z5U a) ?_ ?_
  ·exact ⟨_, _, _, ob4, v4, rfl, hle4, hFr, ok4, hc4, hown4, hob4, zaB a, hmu, stp, stp, stp⟩
  ·clear q3 q4 q5 hFr hc4 hown4 hob4 ok4 hle4;rintro ⟨F, todo⟩ st ⟨tm, nx', H', ob, v, rfl, hle, hFr, hok', hcell, hown, hob, hI, hM, q3, q4, q5⟩;dsimp only at hcell hown hI hM;rcases List.eq_nil_or_concat todo with rfl | ⟨t0, t, htd⟩
   ·have hor := hown.at z1F;obtain ⟨va, vc, rfl⟩ := hor.slice;refine z4s ?_;refine z1L ?_ (c := by simp);refine z8e ?_;refine z9w ?_;refine ⟨.inr rfl, _, zy, nx + 1, F, stp, hcell, hI.nodup, hI.all, zom, zom, by have := hxH.1; omega, fun j hj => ?_⟩;rw [hFr j zom zom, x3.2 j zom, hxH.2 j hj]
   ·rw [List.concat_eq_append] at htd;subst htd;have hml : t0.length + 1 ≤ 100000 := by unfold muF at hM; rw [List.length_append, List.length_singleton] at hM; omega
    cases ob with
    | none => obtain ⟨_, _, h2⟩ := hown; simp at h2
    | some bt =>
     obtain ⟨b, tg⟩ := bt;have hor := hown.at z1F;have hpop := zfV hown;obtain ⟨hv, _, rest, hH⟩ := hown;have hl1 : (t0 ++ [t]).length = t0.length + 1 := by simp
     rw [hl1] at hv;subst hv;have hbb := hob b tg rfl
     have hg : z0A H' ⟨b, 0 + (((t0.length + 1 : Nat) : Int) - 1).toNat * 2, some tg⟩ 2 = some (z1q t) := by
      rw [show (((t0.length + 1 : Nat) : Int) - 1).toNat = t0.length by omega];have := z6X z1F hH (i := t0.length) (by simp);simpa using this
     have hsl : ∀ GG : Heap, GG b = H' b → z0E Tryz.prog GG 102 (.slice (some ⟨b, 0, some tg⟩) (t0.length + 1) (t0.length + 1)) none (some (.int .i64 (((t0.length + 1 : Nat) : Int) - 1))) none = some (.slice (some ⟨b, 0 + 0 * 2, some tg⟩) (t0.length - 0) (t0.length - 0)) := fun GG hGG => by
      have := z03 (P := Tryz.prog) (H := GG) (t := 102) (el := 101) (sz := 2) (a := ⟨b, 0, some tg⟩) (len := t0.length + 1) (cap := t0.length + 1) (l := 0) (h := t0.length) (tg := tg) (lo := none) (hi := some (.int .i64 (((t0.length + 1 : Nat) : Int) - 1))) zxr zxr (hGG.trans hH) rfl rfl rfl (.inl ⟨rfl, rfl⟩) (.inr ⟨.i64, by congr 2; omega⟩) (Nat.zero_le _) (Nat.le_succ _)
      rwa [if_neg zom] at this
     have hm1 := zfX a F t0 t;have hun : t ∈ z8a a := hI.uni t (List.mem_append.2 (.inr (List.mem_singleton.2 rfl)));refine zgK ?_;refine OpsL.new zsd (zD (l := (rep 2 [.int .i64 0])) krf) ?_;refine OpsL.upd (zw (k := 2) (u := thV t) evd evr zxr rfl (o := .cells (z1q t) 0 none false (some 101)) (zE (vs := (z1q t)) zb rfl rfl)) ?_;obtain ⟨G5, hG5⟩ : ∃ G0, G0 = (H'.put nx' (.cells (rep 2 [.int .i64 0]) 0 none false (some 101))).put nx' (.cells (z1q t) 0 none false (some 101)) := ⟨_, rfl⟩;have xG5 : Ext nx' H' (nx' + 1) G5 := ⟨Nat.le_succ _, fun j hj => by rw [hG5, za zom, za zom]⟩;have kG5 : ∀ id o, G5 id = some o → id < nx' + 1 := by rw [hG5]; exact zV (zF hok') zb
     have bG5 : G5 nx' = some (.cells (z1q t) 0 none false (some 101)) := by rw [hG5, zb]
     first | rw [← hG5] | skip
     clear hG5
     repeat (first | (refine zd (by first | exact omv | exact zct | exact z1D) ?_) | refine Trip.seq ?_ | refine zk ?_ | (refine OpsL.nil ?_; (change Trip _ _ _ _ _)))
     refine zd (z06 (r := .slice (some ⟨b, 0 + 0 * 2, some tg⟩) (t0.length - 0) (t0.length - 0)) (a := none) (b := some (.int .i64 (((t0.length + 1 : Nat) : Int) - 1))) (c := none) evd rfl zer rfl (hsl _ (xG5.2 b zom))) ?_;have hF5 : FoundAt G5 (.map (some (nx + 1))) F := ⟨nx + 1, _, _, rfl, (xG5.2 _ zom).trans hcell⟩;refine z6v ?_;refine zd (zg (k := 2) (vs := z1q t) evd zxr rfl zxr (zH bG5 rfl)) ?_;refine zd (z0k evd evr (hF5.told t)) ?_;refine zfz ?_;refine OpsL.new zsd (zD (l := []) krf) ?_;refine OpsL.upd (zw (k := 0) (u := .agg #[]) evd evr zxr rfl (o := .cells [] 0 none false (some 103)) (zE (vs := []) zb rfl rfl)) ?_;obtain ⟨G6, hG6⟩ : ∃ G0, G0 = (G5.put (nx' + 1) (.cells [] 0 none false (some 103))).put (nx' + 1) (.cells [] 0 none false (some 103)) := ⟨_, rfl⟩;have xG6 : Ext (nx' + 1) G5 ((nx' + 1) + 1) G6 := ⟨Nat.le_succ _, fun j hj => by rw [hG6, za zom, za zom]⟩;have kG6 : ∀ id o, G6 id = some o → id < (nx' + 1) + 1 := by rw [hG6]; exact zV (zF kG5) zb
     have bG6 : G6 (nx' + 1) = some (.cells [] 0 none false (some 103)) := by rw [hG6, zb]
     first | rw [← hG6] | skip
     clear hG6;have hc6 : G6 (nx + 1) = some (.map (F.map fun t => (thV t, .agg #[])) (List.range F.length) F.length) := by rw [xG6.2 _ zom, xG5.2 _ zom]; exact hcell
     have hF6 : ∀ j, j < n2 + 1 → j ≠ nx + 1 → G6 j = G3 j := fun j h1 h2 => by rw [xG6.2 _ zom, xG5.2 _ zom]; exact hFr j h1 h2
     have hpop6 := OwnOf.ext (xG5.trans xG6) (fun b' t' h => by cases h; exact hbb.2) hpop;have hb6 : G6 nx' = some (.cells (z1q t) 0 none false (some 101)) := (xG6.2 _ (Nat.lt_succ_self _)).trans bG5;clear hg hsl hF5 bG6 bG5 hor hpop;by_cases htF : t ∈ F
     ·simp only [htF, decide_true];refine z6v ?_;refine z11 ?_
      repeat (first | (refine Trip.exit ?_; ((repeat (refine zY ?_)); dsimp only)))
      exact ⟨(F, t0), ⟨_, _, _, some (b, tg), _, rfl, zom, hF6, kG6, hc6, hpop6, fun b' t' h => by cases h; omega, hI.old htF, by show muF a F t0 ≤ 100000; omega, stp, stp, stp⟩, by show muF a F t0 < muF a F (t0 ++ [t]); omega⟩
     ·have hJ0 := hI.fresh htF;simp only [htF, decide_false];refine z6v ?_;refine z0h ?_;refine zdV ?_;refine zd (zg (k := 2) (vs := z1q t) evd zxr rfl zxr (zH hb6 rfl)) ?_;refine zd (zC (v := .agg #[]) (l := []) (by simp only [z0i]) krf) ?_;have hupd : zP Tryz.prog G6 53 (.map (some (nx + 1))) (thV t) (.agg #[]) = some (.upd (nx + 1) (.map ((F ++ [t]).map fun t => (thV t, .agg #[])) (List.range (F ++ [t]).length) (F ++ [t]).length)) := by rw [FoundAt.put hc6 htF]; simp [List.range_succ]
      refine OpsL.upd (z10 evd evr evd hupd) ?_;have hG7 : ∀ j, j ≠ nx + 1 → (G6.put (nx + 1) (.map ((F ++ [t]).map fun t => (thV t, .agg #[])) (List.range (F ++ [t]).length) (F ++ [t]).length)) j = G6 j := fun j hj => za hj;have hc7 : (G6.put (nx + 1) (.map ((F ++ [t]).map fun t => (thV t, .agg #[])) (List.range (F ++ [t]).length) (F ++ [t]).length)) (nx + 1) = some (.map ((F ++ [t]).map fun t => (thV t, .agg #[])) (List.range (F ++ [t]).length) (F ++ [t]).length) := zb;have ok7 := zV (o := .map ((F ++ [t]).map fun t => (thV t, .agg #[])) (List.range (F ++ [t]).length) (F ++ [t]).length) kG6 hc6;generalize G6.put (nx + 1) (.map ((F ++ [t]).map fun t => (thV t, .agg #[])) (List.range (F ++ [t]).length) (F ++ [t]).length) = G7 at *;have hF7 : ∀ j, j < n2 + 1 → j ≠ nx + 1 → G7 j = G3 j := fun j h1 h2 => by rw [hG7 j h2]; exact hF6 j h1 h2
      have hown7 : z8j G7 (some (b, tg)) (.slice (some ⟨b, 0 + 0 * 2, some tg⟩) (t0.length - 0) (t0.length - 0)) t0 := OwnRow.same (fun b' t' h => by cases h; exact hG7 b zom) hpop6;have hb7 : G7 nx' = some (.cells (z1q t) 0 none false (some 101)) := (hG7 nx' zom).trans hb6;obtain ⟨r, htell⟩ := hw3.tells t;have hwf : ∀ (H9 : Heap) (nx9 : Nat), n2 + 1 ≤ nx9 → (∀ j, j < n2 + 1 → j ≠ nx + 1 → H9 j = G3 j) → WaitIn H9 n1 n1 nx9 (z4v (z0b a)) W := fun H9 nx9 h1 h2 => hw3.framed (fun j h3 h4 => h2 j h4 zom) h1;have hrl : (z4v (z0b a) t).length ≤ (z0b a).length := List.length_filter_le _ _;have hml2 := z3Y hn;clear hb6 hpop6 hc6 hF6 hupd hG7 kG6 xG5 xG6 kG5;refine zaE ?_;refine zd (zg (k := 2) (vs := z1q t) evd zxr rfl zxr (zH hb7 rfl)) ?_;refine zd (z0k evd evr (htell G7 _ (hwf G7 (nx' + 1 + 1) zom hF7)).1) ?_;obtain ⟨ra, rc, rfl⟩ := (htell G7 _ (hwf G7 (nx' + 1 + 1) zom hF7)).2.slice;generalize z4v (z0b a) t = rs at *
      repeat (first | (refine zd (by first | exact omv | exact z1D) ?_) | refine Trip.block ?_ | (refine OpsL.nil ?_; (change Trip _ _ _ _ _)))
      refine Trip.mono (Q := fun e st => e = .exit 4 ∧ ∃ (tm' : Nat → Value) (nx3 : Nat) (H3 : Heap) (ob3 : Option (Nat × Nat)) (v3 : Value) (td : List Thg), st = ⟨tm', n, H3, nx3⟩ ∧ n2 + 1 ≤ nx3 ∧ (∀ j, j < n2 + 1 → j ≠ nx + 1 → H3 j = G3 j) ∧ (∀ id o, H3 id = some o → id < nx3) ∧ H3 (nx + 1) = some (.map ((F ++ [t]).map fun t => (thV t, .agg #[])) (List.range (F ++ [t]).length) (F ++ [t]).length) ∧ z8j H3 ob3 v3 td ∧ (∀ b t, ob3 = some (b, t) → n2 + 1 ≤ b ∧ b < nx3) ∧ FindJ a (F ++ [t]) td [] ∧ td.length ≤ t0.length + 2 * rs.length ∧ tm' 3 = .map (some (nx + 1)) ∧ tm' 4 = .map (some n1) ∧ tm' 5 = v3) ?_ ?_
      ·refine zu (fun (i : Nat) st => ∃ (tm' : Nat → Value) (nx3 : Nat) (H3 : Heap) (ob3 : Option (Nat × Nat)) (v3 : Value) (td : List Thg), st = ⟨tm', n, H3, nx3⟩ ∧ n2 + 1 ≤ nx3 ∧ (∀ j, j < n2 + 1 → j ≠ nx + 1 → H3 j = G3 j) ∧ (∀ id o, H3 id = some o → id < nx3) ∧ H3 (nx + 1) = some (.map ((F ++ [t]).map fun t => (thV t, .agg #[])) (List.range (F ++ [t]).length) (F ++ [t]).length) ∧ z8j H3 ob3 v3 td ∧ (∀ b t, ob3 = some (b, t) → n2 + 1 ≤ b ∧ b < nx3) ∧ FindJ a (F ++ [t]) td (rs.drop i) ∧ td.length ≤ t0.length + 2 * i ∧ tm' 3 = .map (some (nx + 1)) ∧ tm' 4 = .map (some n1) ∧ tm' 5 = v3 ∧ tm' 59 = .slice ra rs.length rc ∧ tm' 60 = .int .i64 rs.length ∧ tm' 61 = .int .i64 i ∧ i ≤ rs.length) (fun i => rs.length - i) 0 ?_ ?_
       ·exact ⟨_, _, _, some (b, tg), _, t0, rfl, zom, hF7, ok7, hc7, hown7, fun b' t' h => by cases h; omega, hJ0, zom, stp, stp, stp, stp, stp, stp, Nat.zero_le _⟩
       ·clear q3 q4 q5 hF7 ok7 hc7 hown7 hb7;rintro i st ⟨tm, nx3, H3, ob3, v3, td, rfl, hle3, hF3, ok3', hc3, hown3, hob3, hJ, htl, q3, q4, q5, q59, q60, q61, hi⟩;by_cases hlt : i < rs.length
        ·obtain ⟨p, hp0, g⟩ := zX (htell H3 nx3 (hwf H3 nx3 hle3 hF3)).2 hlt;rw [List.drop_eq_getElem_cons hlt] at hJ;generalize rs[i] = m at *;refine zcj ?_;refine z0z ?_;subst hp0;refine zdU ?_;refine z11 ?_
         repeat (first | refine zd (by exact z2Z) ?_ | refine Trip.seq ?_ | refine zk ?_ | refine Trip.block ?_ | (refine Trip.skip ?_; (change Trip _ _ _ _ _)))
         refine zd (zg (k := 4) (vs := Go.Am.e4 m) evr zxr rfl zxr g) ?_;refine OpsL.new zsd (zD (l := (rep 4 [.int .i64 0])) krf) ?_;refine OpsL.upd (zw (k := 4) (u := .agg (Go.Am.e4 m).toArray) evd evd zxr rfl (o := .cells (Go.Am.e4 m) 0 none false (some 106)) (zE (vs := (Go.Am.e4 m)) zb rfl rfl)) ?_;obtain ⟨G8, hG8⟩ : ∃ G0, G0 = (H3.put nx3 (.cells (rep 4 [.int .i64 0]) 0 none false (some 106))).put nx3 (.cells (Go.Am.e4 m) 0 none false (some 106)) := ⟨_, rfl⟩;have xG8 : Ext nx3 H3 (nx3 + 1) G8 := ⟨Nat.le_succ _, fun j hj => by rw [hG8, za zom, za zom]⟩;have kG8 : ∀ id o, G8 id = some o → id < nx3 + 1 := by rw [hG8]; exact zV (zF ok3') zb
         have bG8 : G8 nx3 = some (.cells (Go.Am.e4 m) 0 none false (some 106)) := by rw [hG8, zb]
         first | rw [← hG8] | skip
         clear hG8;refine zaE ?_;refine zd (zg (k := 4) (vs := Go.Am.e4 m) evd zxr rfl zxr (zH bG8 rfl)) ?_;have hf8 : FoundAt G8 (.map (some (nx + 1))) (F ++ [t]) := ⟨nx + 1, _, _, rfl, (xG8.2 _ zom).trans hc3⟩;refine OpsL.c2 (hf := z96) (hc := (zgi W0 m hf8).ok) (h := ?_);rintro vA nA HA ⟨⟨rfl, xA⟩, okA⟩;have hxA := xG8.trans xA;have hbA : HA nx3 = some (.cells (Go.Am.e4 m) 0 none false (some 106)) := (xA.2 _ (Nat.lt_succ_self _)).trans bG8;have hlA := hxA.1;have hcA : HA (nx + 1) = some (.map ((F ++ [t]).map fun t => (thV t, .agg #[])) (List.range (F ++ [t]).length) (F ++ [t]).length) := (hxA.2 _ zom).trans hc3;have hFA : ∀ j, j < n2 + 1 → j ≠ nx + 1 → HA j = G3 j := fun j h1 h2 => by rw [hxA.2 j zom]; exact hF3 j h1 h2
         have hownA := OwnOf.ext hxA (fun b t h => (hob3 b t h).2) hown3;clear bG8 xG8 kG8 xA hf8 g hown3;by_cases hall : ∀ u ∈ z08 m, u ∈ F ++ [t]
         ·rw [decide_eq_true hall];refine z9o ?_;refine zcj ?_;refine zd (zg (k := 4) (vs := Go.Am.e4 m) evd zxr rfl zxr (zH hbA rfl)) ?_;refine z0c (hf := zaf) (hc := (zho W0 m).ok) (h := ?_);rintro vB nB HB ⟨⟨rfl, xB⟩, okB⟩;have hlB := xB.1;refine OpsL.new zsd (zD (l := (rep 4 [.int .i64 0])) krf) ?_;refine OpsL.upd (zw (k := 4) (u := .agg (z5i (z0t m)).toArray) evd evd zxr rfl (o := .cells (z5i (z0t m)) 0 none false (some 108)) (zE (vs := (z5i (z0t m))) zb rfl rfl)) ?_;obtain ⟨G9, hG9⟩ : ∃ G0, G0 = (HB.put nB (.cells (rep 4 [.int .i64 0]) 0 none false (some 108))).put nB (.cells (z5i (z0t m)) 0 none false (some 108)) := ⟨_, rfl⟩;have xG9 : Ext nB HB (nB + 1) G9 := ⟨Nat.le_succ _, fun j hj => by rw [hG9, za zom, za zom]⟩;have kG9 : ∀ id o, G9 id = some o → id < nB + 1 := by rw [hG9]; exact zV (zF okB) zb
          have bG9 : G9 nB = some (.cells (z5i (z0t m)) 0 none false (some 108)) := by rw [hG9, zb]
          first | rw [← hG9] | skip
          clear hG9
          repeat (first | refine zd (by exact omv) ?_ | refine zk ?_ | (refine OpsL.nil ?_; (change Trip _ _ _ _ _)))
          refine zd (z06 (r := .slice (some ⟨nB, 0, none⟩) 2 2) (a := none) (b := none) (c := none) evd rfl rfl rfl zdf) ?_;have hxG := xB.trans xG9;have hgl : (z0t m).length = 2 := rfl;refine zO (us := z0t m) (bytes := 16) (z := rep 2 [.int .i64 0]) z1F z7B zom zsd (OwnOf.ext hxG (fun b t h => by have := hob3 b t h; omega) hownA) (ze7 rfl bG9) evd evd (fun b t h => by have := hob3 b t h; omega) zxr zxr zxr zxr zxr rfl zom zom ?_;intro v9 nx9 H9 ob9 hA9;have hl9 := hA9.le;have hf9 : ∀ j, j < n2 + 1 → H9 j = HA j := fun j hj => by rw [hA9.same j zom (fun b t h => by have := (hob3 b t h).1; omega), hxG.2 j zom]
          refine zg7 ?_;refine ⟨i + 1, ⟨_, nx9, H9, ob9, v9, td ++ z0t m, rfl, zom, fun j h1 h2 => by rw [hf9 j h1]; exact hFA j h1 h2, hA9.ok (fun b t h => by have := hob3 b t h; omega) kG9, (hf9 _ zom).trans hcA, hA9.own, fun b t h => ?_, hJ.yes hall, by rw [List.length_append]; omega, stp, stp, stp, stp, stp, stp, zom⟩, zom⟩;obtain ⟨q1, q2⟩ := hA9.blk b t h;refine ⟨?_, q1⟩;rcases q2 with rfl | ⟨t', h'⟩
          ·omega
          ·exact (hob3 _ _ h').1
         ·rw [decide_eq_false hall];refine z9s ?_;refine zck ?_;exact ⟨i + 1, ⟨_, nA, HA, ob3, v3, td, rfl, zom, hFA, okA, hcA, hownA, fun b t h => by have := hob3 b t h; omega, hJ.no hall, zom, stp, stp, stp, stp, stp, stp, zom⟩, zom⟩
        ·have hin : i = rs.length := by omega
         subst hin;rw [List.drop_length] at hJ;refine z4e ?_;exact ⟨rfl, _, nx3, H3, ob3, v3, td, rfl, hle3, hF3, ok3', hc3, hown3, hob3, hJ, htl, stp, stp, stp⟩
      ·clear q3 q4 q5;rintro e st ⟨rfl, tm', nx3, H3, ob3, v3, td, rfl, hle3, hF3, ok3', hc3, hown3, hob3, hJ, htl, q3, q4, q5⟩;refine zcw ?_;have hnew := zfY hun htF (show td.length ≤ t0.length + 2 * (z0b a).length by omega)
       repeat fail
       exact ⟨(F ++ [t], td), ⟨_, nx3, H3, ob3, v3, rfl, hle3, hF3, ok3', hc3, hown3, hob3, hJ.end, by show muF a (F ++ [t]) td ≤ 100000; omega, stp, stp, stp⟩, by show muF a (F ++ [t]) td < muF a F (t0 ++ [t]); omega⟩
end Go.Proofs.YteplpegfcpmflaaGreat
namespace Go.Am
open Go.RowKit
section
variable {P : Program} {W0 : World}
def zgO (st : ASt) (o : Oper) : Option Value :=
 match o.op with
 | .next it false => st.ev it
 | _ => none
theorem zch {ops : Array Oper} {i : Nat} {l : List Nat} {o : Oper} {st : ASt} {it : Value} {rs : List (Value × Eff)} {Q : ASt → Prop} (ho : ops[i]? = some o) (hw : z15 ops st o = true) (hd : z16 st o = true)
  (hop : zgO st o = some it) (hn : z6P st.H it = some rs) (h : ∀ r ∈ rs, Ops P W0 ops l (st.put o.dst r.1 r.2) Q) : Ops P W0 ops (i :: l) st Q := by
 intro ρ C a w hr hs;simp only [wpOpsIn, ho, z1X hs ops o, hw, if_true];refine ⟨fun _ _ => trivial, ?_⟩;unfold zgO at hop;split at hop
 case h_2 => cases hop
 rename_i x hx;obtain ⟨⟨v, e⟩, hrr, hsnd⟩ := z9d (P := P) (ty := o.type) hs.rel hn (hs.ev x it hop);obtain ⟨n, v', w', C', hrun, hnn, hR, hS, hv⟩ := hsnd.toN;have hs' := hs.put (dst := o.dst) (z1z hd) hR hS hv
 have hnext : wpOpsIn (rf ρ) 0 P ops (Post W0 C st a.defers fun e s => e = .normal ∧ Q s) l (a.put o.dst v') w' :=
  z7J (st1 := st.put o.dst v e) (df := a.defers) hS rfl (.of_eq (z1x a o.dst v')) l ops _ w' (h (v, e) hrr ρ C' _ w' (hr.next hS) hs')
 have hrun' : (o.semAt (rf ρ).round a.eval).run P w = .ok n w' := by
  rw [Oper.semAt_eq _ a.eval o (fun d hd => by rw [hx] at hd; cases hd)];simp only [execOp, hx];exact hrun
 rw [hrun'];rcases hnn with rfl | ⟨rfl, rfl⟩
 ·exact hnext
 ·exact hnext
end
end Go.Am
namespace Go.Am
open Go.RowKit
section
variable {P : Program} {W0 : World}
variable {ops : Array Oper} {op : Op} {type : TypeId} {pos : String} {after : Array Edge} {l : List Oper} {tm : Nat → Value} {n nx : Nat} {H : Heap}
theorem zcb {id : Nat} {d : Tmp} {x : Operand} {it : Value} {rs : List (Value × Eff)} {Q : AExit → ASt → Prop} (hl : ops.toList = ⟨some d, .next x false, type, pos, after, none⟩ :: l) (hd : d < n)
  (hx : ASt.ev ⟨tm, n, H, nx⟩ x = some it) (hn : z6P H it = some rs) (h : ∀ r ∈ rs, OpsL P W0 ops l ⟨zl tm (some d) r.1, n, r.2.H nx H, r.2.nx nx⟩ (Q .normal)) : Trip P W0 (.region id ops false) ⟨tm, n, H, nx⟩ Q := by
 refine Trip.region ?_
 have h0 : ops[0]? = some ⟨some d, .next x false, type, pos, after, none⟩ := by
  have : ops.toList[0]? = some ⟨some d, .next x false, type, pos, after, none⟩ := by rw [hl]; rfl
  simpa using this
 have hs : List.range ops.size = 0 :: List.range' 1 l.length := by
  rw [← Array.length_toList, hl, List.range_eq_range', List.length_cons, List.range'_succ]
 rw [hs];exact zch h0 rfl (by simp [z16, hd]) hx hn fun r hr => zbj l 1 _ (by rw [hl]; rfl) (h r hr)
theorem zbO {es : List (Value × Value)} : ∀ (s k : Nat) (i : Nat) (kv : Value × Value), i < k → es[i]? = some kv → (es.zip (List.range' s k)).find? (fun x => x.2 == s + i) = some (kv, s + i) := by
 induction es with
 | nil => intro s k i kv _ h; simp at h
 | cons e es ih =>
  intro s k i kv hi h;cases k with
  | zero => omega
  | succ k =>
   rw [List.range'_succ, List.zip_cons_cons];cases i with
   | zero =>
    simp only [List.getElem?_cons_zero, Option.some.injEq] at h;subst h;simp
   | succ i =>
    rw [List.find?_cons_of_neg (by simp), show s + (i + 1) = (s + 1) + i by omega];exact ih (s + 1) k i kv zom (by simpa using h)
theorem z7M {es : List (Value × Value)} {k : Nat} {x : (Value × Value) × Nat} (h : x ∈ es.zip (List.range k)) : x.2 < k ∧ es[x.2]? = some x.1 := by
 obtain ⟨i, hi, he⟩ := List.getElem_of_mem h;rw [List.getElem_zip] at he;subst he;rw [List.length_zip, List.length_range] at hi;simp only [List.getElem_range];exact ⟨zom, List.getElem?_eq_getElem zom⟩
theorem zbH {r m k : Nat} {seen : List Nat} {es : List (Value × Value)} (hr : H r = some (.miter (some m) k seen k)) (hm : H m = some (.map es (List.range k) k)) (hl : es.length = k) :
  ∃ rs, z6P H (.pointer (some ⟨r, 0, none⟩)) = some rs ∧ ∀ x ∈ rs, (x = (.tuple #[.bool false], .none) ∧ ∀ i, i < k → i ∈ seen) ∨
   ∃ (i : Nat) (key val : Value), i < k ∧ i ∉ seen ∧ es[i]? = some (key, val) ∧ x = (.tuple #[.bool true, key, val], .upd r (.miter (some m) k (seen ++ [i]) k)) := by
 have hc : (((List.range k).all fun b => decide (b < k)) && (seen.isEmpty || (List.range k).isEmpty || (List.range k).any fun b => decide (b < k))) = true := by
  rw [Bool.and_eq_true];refine ⟨List.all_eq_true.2 fun b hb => by simpa using hb, ?_⟩;cases k with
  | zero => simp
  | succ k =>
   rw [Bool.or_eq_true];exact .inr (List.any_eq_true.2 ⟨0, by simp, by simp⟩)
 have hz : ∀ i, i < k → ∃ kv, (kv, i) ∈ es.zip (List.range k) ∧ es[i]? = some kv := fun i hi => by
  refine ⟨es[i]'zom, ?_, List.getElem?_eq_getElem zom⟩;refine List.mem_iff_getElem.2 ⟨i, by rw [List.length_zip, List.length_range]; omega, ?_⟩;rw [List.getElem_zip, List.getElem_range]
 unfold z6P;simp only [hr, hm, hc, if_true];cases hf : (es.zip (List.range k)).filter fun x => !seen.contains x.2 with
 | nil =>
  refine ⟨_, rfl, fun x hx => .inl ⟨List.mem_singleton.1 hx, fun i hi => ?_⟩⟩;obtain ⟨kv, h1, _⟩ := hz i hi;by_cases hs : i ∈ seen
  ·exact hs
  ·have : (kv, i) ∈ (es.zip (List.range k)).filter fun x => !seen.contains x.2 := List.mem_filter.2 ⟨h1, by simpa using hs⟩;rw [hf] at this;cases this
 | cons y ys =>
  refine ⟨_, rfl, fun x hx => ?_⟩;obtain ⟨z, hz1, rfl⟩ := List.mem_map.1 hx;rw [← hf] at hz1;obtain ⟨h1, h2⟩ := List.mem_filter.1 hz1;obtain ⟨h3, h4⟩ := z7M h1;exact .inr ⟨z.2, z.1.1, z.1.2, h3, by simpa using h2, h4, rfl⟩
theorem zbU {r m k i : Nat} {seen : List Nat} {es : List (Value × Value)} {key val : Value} (hr : H r = some (.miter (some m) k (seen ++ [i]) k)) (hm : H m = some (.map es (List.range k) k)) (hi : i < k) (he : es[i]? = some (key, val)) :
  z6Q H (.pointer (some ⟨r, 0, none⟩)) = some (.tuple #[key, val]) := by
 unfold z6Q;have := zbO 0 k i (key, val) hi he;rw [Nat.zero_add, ← List.range_eq_range'] at this;simp only [hr, hm, if_true, List.getLast?_append, List.getLast?_singleton, Option.some_or, this, Option.map_some]
variable {dst : Option Tmp} {guard : Option (Nat × Bool)} {ev : Operand → Option Value}
theorem zdB {x : Operand} {v r : Value} (hx : ev x = some v) (h : z6Q H v = some r) : aop P H nx ev ⟨dst, .entry x, type, pos, after, guard⟩ = some (r, .none) := by simp [aop, hx, h]
theorem zc6 {x : Operand} {t k e : TypeId} {m : Nat} {es : List (Value × Value)} {bs : List Nat} {clk : Nat} (hx : ev x = some (.map (some m))) (hu : P.underlying t = some (.map k e)) (hm : H m = some (.map es bs clk)) :
  aop P H nx ev ⟨dst, .range t x, type, pos, after, guard⟩ = some (.pointer (some ⟨nx, 0, none⟩), .new (.miter (some m) clk [] clk)) := by simp [aop, hx, zaP, hu, hm]
end
end Go.Am

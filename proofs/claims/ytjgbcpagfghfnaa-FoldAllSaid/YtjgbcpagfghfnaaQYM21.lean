import Derived.Test.YtjgbcpagfghfnaaQYM20
import Derived.Test.YtjgbcpagfghfnaaQYM15
set_option linter.unusedVariables false
set_option linter.unusedSimpArgs false
set_option linter.unnecessarySimpa false
namespace Go.Am
open Go.RowKit
def z3t : List Nat → Code → Code
 | 0 :: p, .seq a _ => z3t p a
 | 1 :: p, .seq _ b => z3t p b
 | 2 :: p, .block _ c => z3t p c
 | 2 :: p, .loop c => z3t p c
 | 3 :: p, .cond _ a _ => z3t p a
 | 4 :: p, .cond _ _ b => z3t p b
 | _, c => c
def z0B (fn : Func) : Code := match fn.body with | some c => c | none => .skip
structure T1 (tm : Nat → Value) (X : MkX) (q : MkP) : Prop where
 t4 : tm 4 = .pointer (some ⟨X.a4, 0, none⟩)
 t5 : tm 5 = .pointer (some ⟨X.A, 0, none⟩)
 t6 : tm 6 = .int .i64 q.k
 t7 : tm 7 = .int .i64 q.n
 t8 : tm 8 = .pointer (some ⟨X.B, 0, none⟩)
 t9 : tm 9 = X.tv
def d1 (ns : List Int) (q : MkP) (i : Nat) : MkD := ⟨(l1F ns q.k i).1, (l1F ns q.k i).2.1 ++ List.replicate (q.n - i) 0, List.replicate q.k 0, (List.range q.k).map fun (c : Nat) => z2i (l1F ns q.k i).2.1 (c : Int), (l1F ns q.k i).2.2, [], [], []⟩
theorem zaR {l : List Int} {n i : Nat} {x : Int} (hl : l.length = i) (h : i < n) : (l ++ List.replicate (n - i) 0).set i x = (l ++ [x]) ++ List.replicate (n - (i + 1)) 0 := by
 obtain ⟨k, rfl⟩ : ∃ k, n = i + 1 + k := ⟨n - (i + 1), by omega⟩;subst hl;rw [List.set_append_right _ _ (Nat.le_refl _), Nat.sub_self, show l.length + 1 + k - l.length = k + 1 by omega, show l.length + 1 + k - (l.length + 1) = k by omega, List.replicate_succ, List.append_assoc];rfl
theorem AllC.set {α : Type} {R : Nat → CH → Value → α → Prop} {σ τ : CH} {vs : List SV} {l : List α} {c : Nat} {u : SV} {x : α} (h : AllC R σ vs l) (hR : ∀ i u x, i < l.length → i ≠ c → R i σ u x → R i τ u x) (hx : R c τ (slV u) x) : AllC R τ (vs.set c u) (l.set c x) := by
 refine ⟨by simp [h.1], fun i y hy => ?_⟩;rw [List.getElem?_set] at hy;split at hy
 ·rename_i e;subst e;split at hy
  ·rename_i hlt;cases hy;exact ⟨u, by rw [List.getElem?_set_self (by rw [h.1]; exact hlt)], hx⟩
  ·cases hy
 ·rename_i e;obtain ⟨w, h1, h2⟩ := h.2 i y hy;exact ⟨w, by rw [List.getElem?_set_ne e]; exact h1, hR _ _ _ (List.getElem?_eq_some_iff.1 hy).1 (fun q => e q.symm) h2⟩
theorem z3J {α : Type} {f g : Nat → α} {k c : Nat} {x : α} (hc : c < k) (hx : x = g c) (h : ∀ i, i ≠ c → f i = g i) : ((List.range k).map f).set c x = (List.range k).map g := by
 apply List.ext_getElem?;intro i;by_cases e : c = i
 ·subst e;rw [List.getElem?_set_self (by simpa using hc), List.getElem?_map, List.getElem?_range hc, hx]; rfl
 ·rw [List.getElem?_set_ne e, List.getElem?_map, List.getElem?_map];by_cases hi : i < k
  ·rw [List.getElem?_range hi]; simp [h i (fun q => e q.symm)]
  ·rw [List.getElem?_eq_none (by simp; omega)]; rfl
theorem OwnC.slice {α : Type} {enc : α → List Value} {el : TypeId} {c : Co} {σ : CH} {v : Value} {l : List α} (hk : ∀ x, (enc x).length = 1) (h : OwnC enc el c σ v l) : ∃ a k, v = .slice a l.length k := (h.at hk).slice
theorem PlainC.block {el : TypeId} {c : Co} {σ : CH} {v : Value} {l : List Int} (h : PlainC el c σ v (l.map (.int .i64 ·))) : ∃ b, v = .slice (some ⟨b, 0, none⟩) l.length l.length ∧ ObC c σ b (.cells (l.map (.int .i64 ·)) 1 none false (some el)) := by
 obtain ⟨b, h1, h2⟩ := h;rw [List.length_map] at h1;exact ⟨b, h1, h2⟩
end Go.Am
namespace Go.Proofs.Ytjgbcpagfghfnaa
open Go.Am Go.RowKit
attribute [local irreducible] aop OpsL Trip zt z1X z1E OpsR OpsQ
theorem TabC.row {σ : CH} {tv : Value} {T : List (List Int)} (h : TabC σ tv T) {c : Nat} (hc : c < T.length) : ∃ (vs : List SV) (b : Nat) (a : Option Addr) (k : Nat), tv = .slice (some ⟨b, 0, none⟩) T.length T.length ∧ ObC .table σ b (.cells (vs.map slV) 1 none false (some 22)) ∧ AllC (fun c => RowI (.tab c)) σ vs T ∧ vs[c]? = some (a, (T.getD c []).length, k) ∧ RowI (.tab c) σ (.slice a (T.getD c []).length k) (T.getD c []) := by
 obtain ⟨vs, ⟨b, h1, h2⟩, h3⟩ := h;rw [List.length_map, h3.1] at h1;obtain ⟨u, q1, q2⟩ := h3.2 c T[c] (List.getElem?_eq_getElem hc);have e : T.getD c [] = T[c] := by rw [List.getD_eq_getElem?_getD, List.getElem?_eq_getElem hc]; rfl
 rw [e];obtain ⟨a, k, hs⟩ := OwnC.slice zR q2
 have hu : u = (a, T[c].length, k) := by
  obtain ⟨u1, u2, u3⟩ := u;unfold slV at hs;simp only [Value.slice.injEq] at hs;obtain ⟨rfl, rfl, rfl⟩ := hs;rfl
 rw [hu] at q1 q2;exact ⟨vs, b, a, k, h1, h2, h3, q1, q2⟩
set_option maxRecDepth 20000 in
set_option maxHeartbeats 16000000 in
theorem zhE (W0 : World) {σ0 σ : CH} {X : MkX} {q : MkP} {V : MoV} {tm : Nat → Value} {n : Nat} (hq : q.ok) (hn0 : n = 220) (ht : T1 tm X q) (h10 : tm 10 = .int .i64 0) (h : MkS σ0 σ X (d1 X.ns q 0) V) {Q : AExit → ASt → Prop}
  (hQ : ∀ tm' σ' V', T1 tm' X q → MkS σ0 σ' X (d1 X.ns q q.n) V' → Q .normal ⟨tm', n, σ'.H, σ'.nx⟩) : Trip Try.prog W0 (z3t [1, 1, 1, 1, 1, 1, 1, 0, 1] (z0B Try.f7)) ⟨tm, n, σ.H, σ.nx⟩ Q := by
 obtain ⟨z1, z2, z3, z4, z5, z6⟩ := hq;refine Trip.block ?_;refine zG (fun (i : Nat) s => ∃ tm σ V, s = ⟨tm, n, σ.H, σ.nx⟩ ∧ T1 tm X q ∧ tm 10 = .int .i64 i ∧ i ≤ q.n ∧ MkS σ0 σ X (d1 X.ns q i) V) (fun i => q.n - i) 0 ?_ ?_
 ·exact ⟨tm, σ, V, rfl, ht, h10, by omega, h⟩
 clear h ht h10;rintro i s ⟨tm, σ, V, rfl, ⟨t4, t5, t6, t7, t8, t9⟩, t10, hi, h⟩;obtain ⟨hl1, hl2, hl3⟩ := z4Q X.ns q.k i
 repeat (first | (refine zc (by first | exact omv | exact z24) ?_) | (refine Trip.seq ?_) | (refine zd ?_) | (refine Trip.block ?_) | (refine zJ (fun _ => ?_) (fun _ => ?_)) | (refine Trip.skip ?_; (change Trip _ _ _ _ _)) | (refine OpsL.nil ?_; (change Trip _ _ _ _ _)))
 ·have hlt : i < q.n := by omega
  obtain ⟨o, ho⟩ : ∃ o, (l1F X.ns q.k i).2.1 = o := ⟨_, rfl⟩;obtain ⟨cnt, hcnt⟩ : ∃ c, (l1F X.ns q.k i).1 = c := ⟨_, rfl⟩;obtain ⟨f, hf⟩ : ∃ c, (l1F X.ns q.k i).2.2 = c := ⟨_, rfl⟩;obtain ⟨c, hc⟩ : ∃ c, c = (if i < q.k then (i : Int) else z6f X.ns (cnt + 1) q.k) := ⟨_, rfl⟩;obtain ⟨n1, hn1⟩ : ∃ m, m = (if i < q.k then cnt else cnt + 1) := ⟨_, rfl⟩;have hd : d1 X.ns q i = ⟨cnt, o ++ List.replicate (q.n - i) 0, List.replicate q.k 0, (List.range q.k).map fun (c : Nat) => z2i o (c : Int), f, [], [], []⟩ := by rw [← ho, ← hcnt, ← hf]; rfl
  have hd' : d1 X.ns q (i + 1) = ⟨n1 + 1, (o ++ [c]) ++ List.replicate (q.n - (i + 1)) 0, List.replicate q.k 0, (List.range q.k).map fun (c' : Nat) => z2i (o ++ [c]) (c' : Int), f ++ [decide (z6f X.ns (n1 + 1) 3 = 0)], [], [], []⟩ := by rw [hn1, hc, ← ho, ← hcnt, ← hf]; rfl
  have hc01 : 0 ≤ c ∧ c < q.k := by
   have := z4R X.ns (cnt + 1) (m := (q.k : Int)) (by omega);rw [hc]; split <;> omega
  have hn1b : n1 ≤ 100 := by rw [hn1]; split <;> omega
  have hlo : o.length = i := by rw [← ho]; exact hl1
  rw [hd] at h
  (first | (refine zc (by exact z09) ?_))
  refine z0n ?_
  (change Trip _ _ _ _ _)
  refine Trip.seq ?_;refine Trip.mono (Q := fun e st => e = .normal ∧ ∃ tm' σ', st = ⟨tm', n, σ'.H, σ'.nx⟩ ∧ T1 tm' X q ∧ tm' 10 = .int .i64 i ∧ tm' 11 = .int .i64 c ∧ MkS σ0 σ' X ⟨n1, o ++ List.replicate (q.n - i) 0, List.replicate q.k 0, (List.range q.k).map fun (c : Nat) => z2i o (c : Int), f, [], [], []⟩ V) ?_ ?_
  ·by_cases hik : i < q.k
   ·rw [if_pos hik] at hc hn1;subst hc hn1;refine zbV ?_;refine z5g ?_;refine z68 ?_
    repeat (first | (refine Trip.skip ?_; (skip)))
    exact ⟨rfl, _, σ, rfl, ⟨stp, stp, stp, stp, stp, stp⟩, stp, stp, h⟩
   ·rw [if_neg hik] at hc hn1;subst hc hn1;refine zbV ?_;refine z5f ?_;refine z9O ?_;refine zfl ?_;refine OpsL.c2 (hf := z3k) (hc := (zfy W0 h.b h.n (by omega) (by omega) (by show cnt ≤ _; omega))) (h := ?_);rintro v nx1 H1 ⟨rfl, τ, rfl, rfl, hx, hb⟩;have h' := h.next hx hb
    repeat (first | (refine zc (by exact z09) ?_) | (refine OpsL.nil ?_; (dsimp only)))
    exact ⟨rfl, _, τ, rfl, ⟨stp, stp, stp, stp, stp, stp⟩, stp, stp, h'⟩
  have hfl : f.length = i := by rw [← hf]; exact hl2
  clear t4 t5 t6 t7 t8 t9 t10 h hc hn1 ho hcnt hf;rintro e st ⟨rfl, tm, σ, rfl, ⟨t4, t5, t6, t7, t8, t9⟩, t10, t11, h⟩
  -- the module is stored
  obtain ⟨bo, hvo, hbo⟩ := h.of.block;have g2 : zf σ.H ⟨X.A, 2, none⟩ V.o := h.a.cell rfl;rw [hvo] at g2;have hlen : (o ++ List.replicate (q.n - i) (0 : Int)).length = q.n := by rw [List.length_append, List.length_replicate]; omega
  rw [hlen] at g2 hvo
  (change Trip _ _ _ _ _)
  repeat (first | (refine zc (by first | exact omv | exact ofa | exact old | exact z1j) ?_) | (refine Trip.seq ?_) | (refine zd ?_))
  refine zP (k := i) (v := .int .i64 c) (cs' := ((o ++ [c]) ++ List.replicate (q.n - (i + 1)) 0).map (.int .i64 ·)) hbo (by rw [List.length_map, hlen]; exact hlt) (by rw [z3A, zaR hlo hlt]) xrf rfl rfl evr evd (by show Addr.mk _ (0 + (i : Int).toNat * 1) _ = _; simp) ?_;rintro σ1 hbo1 x1 -;have hlen2 : ((o ++ [c]) ++ List.replicate (q.n - (i + 1)) (0 : Int)).length = q.n := by simp; omega
  replace h := h.setOf x1 ⟨bo, (by rw [hvo, List.length_map, hlen2]), hbo1⟩;clear g2 hbo
  (dsimp only)
  -- into the table
  obtain ⟨vs, bt, ta, tk, htv, hbt, hall, hvc, hrow⟩ := h.tb.row (c := c.toNat) (by simp; omega);rw [z0x (by omega), Int.toNat_of_nonneg hc01.1] at hvc hrow;have hTl : ((List.range q.k).map fun (c : Nat) => z2i o (c : Int)).length = q.k := by simp
  rw [hTl] at htv;rw [htv] at t9
  have g3 : zf σ1.H ⟨bt, 0 + c.toNat * 1, none⟩ (.slice ta (z2i o c).length tk) := by
   rw [Nat.zero_add, Nat.mul_one];exact hbt.cell (by rw [List.getElem?_map, hvc]; rfl)
  have htl := z6g o c
  repeat (first | (refine zc (by first | exact omv | exact old | exact z1j) ?_) | (refine Trip.seq ?_) | (refine zd ?_) | (refine OpsL.nil ?_; (change Trip _ _ _ _ _)))
  refine z0i (σ := σ1) (enc := z1L) (z := (i : Int)) (el := 3) rfl evd krf sdc ?_;intro σ2 x2 hu;replace hrow := zm x2 (by simp) hrow;refine zT (bytes := 8) (z := [.int .i64 0]) zR z0I hrow hu xrf xrf xrf xrf xrf rfl (by simp; omega) (by omega) evd evd sdc ?_;intro v3 σ3 hrow3 x3;obtain ⟨va, vk, rfl⟩ := OwnC.slice zR hrow3;replace hbt := (hbt.keep x2 (by simp)).keep x3 (by simp);refine zbl ?_;refine zP (k := c.toNat) (v := .slice va (z2i o c ++ [(i : Int)]).length vk) (cs' := (vs.set c.toNat (va, (z2i o c ++ [(i : Int)]).length, vk)).map slV) hbt (by have := hall.1; simp at this; rw [List.length_map, this]; omega) (by rw [List.map_set]; rfl) xrf rfl rfl evr evd (by show Addr.mk _ (0 + c.toNat * 1) _ = _; simp) ?_;rintro σ4 hbt4 x4 -;have x24 : Chg [.tab c.toNat, .table] σ1 σ4 := ((x2.mono (by simp)).trans (x3.mono (by simp))).trans (x4.mono (by simp));have hrow4 := zm x4 (by simp) hrow3
  have hT : TabC σ4 X.tv ((List.range q.k).map fun (c' : Nat) => z2i (o ++ [c]) (c' : Int)) := by
   have hs : ((List.range q.k).map fun (c : Nat) => z2i o (c : Int)).set c.toNat (z2i o c ++ [(i : Int)]) = (List.range q.k).map fun (c' : Nat) => z2i (o ++ [c]) (c' : Int) :=
    z3J (by omega) (by rw [z8T, Int.toNat_of_nonneg hc01.1, if_pos rfl, hlo]) (fun i' hi' => by rw [z8T, if_neg (by omega)])
   have hvl : ((vs.set c.toNat (va, (z2i o c ++ [(i : Int)]).length, vk)).map slV).length = q.k := by have := hall.1; simp at this; simp [this]
   refine ⟨_, ⟨bt, (by rw [htv, hvl]), hbt4⟩, ?_⟩;rw [← hs];exact hall.set (fun i' _ _ _ hi' hr => zm x24 (by simp [hi']) hr) hrow4
  have hbo4 := h;replace h := h.setTb x24 hT;clear hbt hbt4 hrow hrow3 hrow4 hT hall hvc g3 hu x2 x3 x4 x24 x1 hbo1 hbo4
  (dsimp only)
  -- whether it accepts
  obtain ⟨fa, fk, hvf⟩ := OwnC.slice z0P h.fi;have g4 : zf σ4.H ⟨X.A, 4, none⟩ V.f := h.a.cell rfl;rw [hvf] at g4;refine zep ?_;refine Trip.mono (Q := fun e st => e = .normal ∧ ∃ tm' σ' V', st = ⟨tm', n, σ'.H, σ'.nx⟩ ∧ T1 tm' X q ∧ tm' 10 = .int .i64 i ∧ MkS σ0 σ' X (d1 X.ns q (i + 1)) V') ?_ ?_
  ·refine OpsQ.drawn [3, 5, 6, 8] (K := fun j nx H => j = 6 → zf H ⟨X.A, 4, none⟩ (.slice fa f.length fk)) zU krf krf [0, 1, 2, 3, 4, 5, 6, 7, 8] krf (fun _ _ _ => g4) ?_;refine z5s ?_;refine z00 6 rfl krf sdc (fun _ => g4) (fun H2 nx2 hK => z0a evr xrf rfl (hK rfl)) ?_;refine zg8 ?_;refine z9X ?_;refine z1K ?_;refine OpsL.c2 (hf := z3k) (hc := (zfy W0 h.b h.n (by omega) (by omega) (by show n1 ≤ _; omega))) (h := ?_);rintro v nx1 H1 ⟨rfl, τ, rfl, rfl, hx, hb⟩;replace h := h.next hx hb;replace g4 : zf τ.H ⟨X.A, 4, none⟩ V.f := h.a.cell rfl;rw [hvf] at g4;refine OpsL.nil ⟨fun _ _ _ => g4, ?_⟩;refine zg8 ?_
   repeat (first | (refine zc (by exact zfs) ?_) | (refine OpsL.nil ?_; (dsimp only)))
   refine z1K ?_;refine z0i (σ := τ) (enc := z3v) (z := decide (z6f X.ns (n1 + 1) 3 = 0)) (el := 4) rfl evd krf sdc ?_;intro σ5 x5 hu;replace h := h.loc x5 (by simp);replace g4 : zf σ5.H ⟨X.A, 4, none⟩ V.f := h.a.cell rfl;rw [hvf] at g4;refine OpsL.nil ⟨fun _ _ _ => g4, ?_⟩;refine z1K ?_;have hfi := h.fi;rw [hvf] at hfi;refine zT (bytes := 1) (z := [.bool false]) z0P z4d hfi hu xrf xrf xrf xrf xrf rfl (by simp; omega) (by omega) evd evd sdc ?_;intro v3 σ6 hfi6 x6;refine OpsL.nil ⟨fun k hk e => (by subst e; simp at hk), ?_⟩;obtain ⟨va, vk, rfl⟩ := OwnC.slice z0P hfi6;have ha6 := h.a.keep x6 (by simp);refine z67 ?_;refine zP (k := 4) (v := .slice va (f ++ [decide (z6f X.ns (n1 + 1) 3 = 0)]).length vk) (cs' := moC X.pl X.cl { V with f := .slice va (f ++ [decide (z6f X.ns (n1 + 1) 3 = 0)]).length vk }) ha6 (by simp [moC]) rfl xrf rfl rfl evr evd rfl ?_;rintro σ7 ha7 x7 -;replace h := h.setFi ((x6.mono (by simp)).trans (x7.mono (by simp))) (OwnC.keep x7 (by simp) hfi6) ha7;rw [hd'];refine OpsL.nil ⟨fun k hk => by simp at hk, ?_⟩;refine OpsQ.nil ?_;exact ⟨rfl, _, σ7, _, rfl, ⟨stp, stp, stp, stp, stp, stp⟩, stp, h⟩
  ·clear t4 t5 t6 t7 t8 t9 t10 t11 h;rintro e st ⟨rfl, tm, σ, V, rfl, ⟨t4, t5, t6, t7, t8, t9⟩, t10, h⟩;refine zc4 ?_;exact ⟨i + 1, ⟨_, σ, V, rfl, ⟨stp, stp, stp, stp, stp, stp⟩, stp, by omega, h⟩, by omega⟩
 ·repeat (first | (refine Trip.exit ?_; ((repeat (refine zD ?_)))))
  have hi2 : i = q.n := by omega
  subst hi2;exact hQ _ σ V ⟨stp, stp, stp, stp, stp, stp⟩ h
end Go.Proofs.Ytjgbcpagfghfnaa
namespace Go.Am
open Go.RowKit
def d2 (ns : List Int) (q : MkP) (i : Nat) : MkD :=
 ⟨(l1F ns q.k q.n).1 + i, (l1F ns q.k q.n).2.1, z0t ns (fun c => z2i (l1F ns q.k q.n).2.1 c) (l1F ns q.k q.n).1 i ++ List.replicate (q.k - i) 0, (List.range q.k).map fun (c : Nat) => z2i (l1F ns q.k q.n).2.1 (c : Int), (l1F ns q.k q.n).2.2, [], [], []⟩
theorem zhn (ns : List Int) (q : MkP) : d1 ns q q.n = d2 ns q 0 := by simp [d1, d2, z0t]
end Go.Am
namespace Go.Proofs.Ytjgbcpagfghfnaa
open Go.Am Go.RowKit
attribute [local irreducible] aop OpsL Trip zt z1X z1E OpsR OpsQ
set_option maxRecDepth 20000 in
set_option maxHeartbeats 16000000 in
theorem zhD (W0 : World) {σ0 σ : CH} {X : MkX} {q : MkP} {V : MoV} {tm : Nat → Value} {n : Nat} (hq : q.ok) (hn0 : n = 220) (ht : T1 tm X q) (h12 : tm 12 = .int .i64 0) (h : MkS σ0 σ X (d2 X.ns q 0) V) {Q : AExit → ASt → Prop}
  (hQ : ∀ tm' σ' V', T1 tm' X q → MkS σ0 σ' X (d2 X.ns q q.k) V' → Q .normal ⟨tm', n, σ'.H, σ'.nx⟩) : Trip Try.prog W0 (z3t [1, 1, 1, 1, 1, 1, 1, 1, 0, 1] (z0B Try.f7)) ⟨tm, n, σ.H, σ.nx⟩ Q := by
 obtain ⟨z1, z2, z3, z4, z5, z6⟩ := hq;refine Trip.block ?_;refine zG (fun (i : Nat) s => ∃ tm σ V, s = ⟨tm, n, σ.H, σ.nx⟩ ∧ T1 tm X q ∧ tm 12 = .int .i64 i ∧ i ≤ q.k ∧ MkS σ0 σ X (d2 X.ns q i) V) (fun i => q.k - i) 0 ?_ ?_
 ·exact ⟨tm, σ, V, rfl, ht, h12, by omega, h⟩
 clear h ht h12;rintro i s ⟨tm, σ, V, rfl, ⟨t4, t5, t6, t7, t8, t9⟩, t12, hi, h⟩;obtain ⟨hl1, hl2, hl3⟩ := z4Q X.ns q.k q.n;have hne : ∀ c : Int, 0 ≤ c → c < q.k → z2i (l1F X.ns q.k q.n).2.1 c ≠ [] := fun c h0 h1 => z6K (ns := X.ns) ⟨z1, z2, z3, z4, z5, z6⟩ c h0 h1
 repeat (first | (refine zc (by first | exact omv | exact z24) ?_) | (refine Trip.seq ?_) | (refine zd ?_) | (refine Trip.block ?_) | (refine zJ (fun _ => ?_) (fun _ => ?_)) | (refine Trip.skip ?_; (change Trip _ _ _ _ _)) | (refine OpsL.nil ?_; (change Trip _ _ _ _ _)))
 ·have hlt : i < q.k := by omega
  have hne := hne i (by omega) (by omega);obtain ⟨o, ho⟩ : ∃ o, (l1F X.ns q.k q.n).2.1 = o := ⟨_, rfl⟩;obtain ⟨cnt, hcnt⟩ : ∃ c, (l1F X.ns q.k q.n).1 = c := ⟨_, rfl⟩;obtain ⟨f, hf⟩ : ∃ c, (l1F X.ns q.k q.n).2.2 = c := ⟨_, rfl⟩;obtain ⟨E, hE⟩ : ∃ c, z0t X.ns (fun c => z2i o c) cnt i = c := ⟨_, rfl⟩;have hEl : E.length = i := by rw [← hE]; exact z0U _ _ _ _
  obtain ⟨R, hR⟩ : ∃ r, z2i o (i : Int) = r := ⟨_, rfl⟩;have hd : d2 X.ns q i = ⟨cnt + i, o, E ++ List.replicate (q.k - i) 0, (List.range q.k).map fun (c : Nat) => z2i o (c : Int), f, [], [], []⟩ := by rw [← hE, ← ho, ← hcnt, ← hf]; rfl
  have hd' : d2 X.ns q (i + 1) = ⟨cnt + i + 1, o, (E ++ [R.getD (z6f X.ns (cnt + i + 1) R.length).toNat 0]) ++ List.replicate (q.k - (i + 1)) 0, (List.range q.k).map fun (c' : Nat) => z2i o (c' : Int), f, [], [], []⟩ := by
   rw [← hR, ← hE, ← ho, ← hcnt, ← hf];unfold d2;rw [z3b];rfl
  rw [ho, hR] at hne;have hRl : 0 < R.length := List.length_pos_iff.2 hne;have hRl2 : R.length ≤ 100 := by have := z6g o (i : Int); rw [hR] at this; rw [← ho] at this; omega
  have hg := z4R X.ns (cnt + i + 1) (m := (R.length : Int)) (by omega);have hcb : cnt ≤ 100 := by omega
  rw [hd] at h;clear hf hcnt hl1 hl2 hl3 ho hE hd;obtain ⟨vs, bt, ta, tk, htv, hbt, hall, hvc, hrow⟩ := h.tb.row (c := i) (by simp; omega);rw [z0x hlt, hR] at hvc hrow;have hTl : ((List.range q.k).map fun (c : Nat) => z2i o (c : Int)).length = q.k := by simp
  rw [hTl] at htv;rw [htv] at t9;obtain ⟨bo, hvo, hbo⟩ := h.en.block;have hlen : (E ++ List.replicate (q.k - i) (0 : Int)).length = q.k := by rw [List.length_append, List.length_replicate]; omega
  have g3 : zf σ.H ⟨X.A, 3, none⟩ V.e := h.a.cell rfl;rw [hlen] at hvo;rw [hvo] at g3
  have g4 : zf σ.H ⟨bt, 0 + i * 1, none⟩ (.slice ta R.length tk) := by
   rw [Nat.zero_add, Nat.mul_one];exact hbt.cell (by rw [List.getElem?_map, hvc]; rfl)
  clear hall hvc hR
  repeat fail
  refine Trip.mono (Q := fun e st => e = .normal ∧ ∃ tm' σ' V', st = ⟨tm', n, σ'.H, σ'.nx⟩ ∧ T1 tm' X q ∧ tm' 12 = .int .i64 i ∧ MkS σ0 σ' X (d2 X.ns q (i + 1)) V') ?_ ?_
  ·refine OpsQ.drawn [13, 17] (K := fun j nx H => j = 17 → zf H ⟨X.A, 3, none⟩ (.slice (some ⟨bo, 0, none⟩) q.k q.k) ∧ zf H ⟨bt, 0 + i * 1, none⟩ (.slice ta R.length tk)) zU krf krf [0, 1, 2, 3, 4, 5, 6, 7, 8, 9, 10, 11, 12, 13, 14, 15, 16, 17] krf (fun _ _ _ => ⟨g3, g4⟩) ?_;refine z5s ?_;refine z00 17 rfl krf sdc (fun _ => ⟨g3, g4⟩) (fun H2 nx2 hK => z0a evr xrf rfl (hK rfl).1) ?_;refine zg3 ?_;refine z9X ?_;refine zg3 ?_;refine zds ?_;refine z00 17 rfl krf sdc (fun _ => ⟨g3, g4⟩) (fun H2 nx2 hK => z0a evr xrf rfl (hK rfl).2) ?_;refine zg3 ?_;refine z9X ?_;refine zc2 ?_;refine zg8 ?_
   repeat (first | (refine zc (by exact z1g) ?_) | (refine OpsL.nil ?_; (skip)))
   refine z1K ?_;refine OpsL.c2 (hf := z3k) (hc := (zfy W0 h.b h.n (by omega) (by omega) (by show cnt + i ≤ _; omega))) (h := ?_);rintro v nx1 H1 ⟨rfl, τ, rfl, rfl, hx, hb⟩;have hx3 := h.a.keep hx (by simp);replace g3 : zf τ.H ⟨X.A, 3, none⟩ V.e := hx3.cell rfl;rw [hvo] at g3;have hbt1 := (hbt.keep hx (by simp)).2.2;replace g4 : zf τ.H ⟨bt, 0 + i * 1, none⟩ (.slice ta R.length tk) := z9c (hbt1.trans hbt.2.2.symm) g4;replace h := h.next hx hb;replace hrow := zm hx (by simp) hrow;replace hbo := hbo.keep hx (by simp);refine OpsL.nil ⟨fun _ _ _ => ⟨g3, g4⟩, ?_⟩;obtain ⟨p, rfl, hc⟩ := (OwnC.ints hrow).atI hg.1 hg.2;refine z5t ?_;refine zg8 ?_;refine zds ?_;refine z1K ?_;refine zP (k := i) (v := .int .i64 (R.getD (z6f X.ns (cnt + i + 1) R.length).toNat 0)) (cs' := ((E ++ [R.getD (z6f X.ns (cnt + i + 1) R.length).toNat 0]) ++ List.replicate (q.k - (i + 1)) 0).map (.int .i64 ·)) hbo (by rw [List.length_map, hlen]; exact hlt) (by rw [z3A, zaR hEl hlt]) xrf rfl rfl evr evd (by show Addr.mk _ (0 + (i : Int).toNat * 1) _ = _; simp) ?_;rintro σ7 hbo7 x7 -;have hlen2 : ((E ++ [R.getD (z6f X.ns (cnt + i + 1) R.length).toNat 0]) ++ List.replicate (q.k - (i + 1)) (0 : Int)).length = q.k := by simp; omega
   replace h := h.setEn x7 ⟨bo, (by rw [hvo, List.length_map, hlen2]), hbo7⟩;rw [hd'];refine OpsL.nil ⟨fun k hk => by simp at hk, ?_⟩;refine OpsQ.nil ?_;exact ⟨rfl, _, σ7, _, rfl, ⟨stp, stp, stp, stp, stp, stp⟩, stp, h⟩
  ·clear t4 t5 t6 t7 t8 t9 t12 h;rintro e st ⟨rfl, tm, σ, V, rfl, ⟨t4, t5, t6, t7, t8, t9⟩, t12, h⟩;refine zc4 ?_;exact ⟨i + 1, ⟨_, σ, V, rfl, ⟨stp, stp, stp, stp, stp, stp⟩, stp, by omega, h⟩, by omega⟩
 ·repeat (first | (refine Trip.exit ?_; ((repeat (refine zD ?_)))))
  have hi2 : i = q.k := by omega
  subst hi2;exact hQ _ σ V ⟨stp, stp, stp, stp, stp, stp⟩ h
end Go.Proofs.Ytjgbcpagfghfnaa
namespace Go.Proofs.Ytjgbcpagfghfnaa
open Go.Am Go.RowKit
attribute [local irreducible] aop OpsL Trip zt z1X z1E OpsR OpsQ
set_option maxRecDepth 20000 in
set_option maxHeartbeats 16000000 in
theorem zhF (W0 : World) {σ0 σ : CH} {X : MkX} {q : MkP} {D : MkD} {V : MoV} {tm : Nat → Value} {n : Nat} {p c3 : Nat} {c : Int} {R : List Int} {lv : Value} (hq : q.ok) (hn0 : n = 220) (hpl : X.pl = q.pl) (ht : T1 tm X q) (h13 : tm 13 = .int .i64 p) (h14 : tm 14 = lv) (h15 : tm 15 = .slice none 0 0) (h16 : tm 16 = .slice none 0 0) (h17 : tm 17 = .slice none 0 0) (h18 : tm 18 = .int .i64 0)
  (hlen : D.I.length = p) (hc3 : D.cnt = c3) (hb3 : c3 ≤ 1000) (hR : R ≠ []) (hRl : R.length ≤ 1000) (hrow : RowI (.tab c.toNat) σ lv R) (h : MkS σ0 σ X D V) {Q : AExit → ASt → Prop}
  (hQ : ∀ tm' σ' v', T1 tm' X q → tm' 13 = .int .i64 p → tm' 14 = lv → tm' 15 = v' → tm' 16 = .slice none 0 0 → tm' 17 = .slice none 0 0 → MkS σ0 σ' X { D with cnt := c3 + q.pl } V → RowI (.tab c.toNat) σ' lv R → RowI (.inn1 p) σ' v' (z0t X.ns (fun _ => R) c3 q.pl) → Q .normal ⟨tm', n, σ'.H, σ'.nx⟩) : Trip Try.prog W0 (z3t [1, 1, 1, 1, 1, 1, 1, 1, 1, 0, 1, 2, 2, 1, 0, 2, 1, 1, 1, 0, 1] (z0B Try.f7)) ⟨tm, n, σ.H, σ.nx⟩ Q := by
 obtain ⟨z1, z2, z3, z4, z5, z6⟩ := hq;have hR0 : 0 < R.length := List.length_pos_iff.2 hR;refine Trip.block ?_;refine zG (fun (i : Nat) s => ∃ tm σ v, s = ⟨tm, n, σ.H, σ.nx⟩ ∧ T1 tm X q ∧ tm 13 = .int .i64 p ∧ tm 14 = lv ∧ tm 15 = v ∧ tm 16 = .slice none 0 0 ∧ tm 17 = .slice none 0 0 ∧ tm 18 = .int .i64 i ∧ i ≤ q.pl ∧ MkS σ0 σ X { D with cnt := c3 + i } V ∧ RowI (.tab c.toNat) σ lv R ∧ RowI (.inn1 p) σ v (z0t X.ns (fun _ => R) c3 i)) (fun i => q.pl - i) 0 ?_ ?_
 ·exact ⟨tm, σ, _, rfl, ht, h13, h14, h15, h16, h17, h18, by omega, by rw [Nat.add_zero, ← hc3]; exact h, hrow, OwnC.nil⟩
 clear h ht h13 h14 h15 h16 h17 h18 hrow hc3;rintro i s ⟨tm, σ, v, rfl, ⟨t4, t5, t6, t7, t8, t9⟩, t13, t14, t15, t16, t17, t18, hi, h, hrow, hre⟩;have g0 : zf σ.H ⟨X.A, 0, none⟩ (.int .i64 X.pl) := h.a.cell rfl;rw [hpl] at g0
 repeat (first | (refine zc (by first | exact omv | exact z24 | exact ofa | exact old) ?_) | (refine Trip.seq ?_) | (refine zd ?_) | (refine Trip.block ?_) | (refine zJ (fun _ => ?_) (fun _ => ?_)) | (refine Trip.skip ?_; (change Trip _ _ _ _ _)) | (refine OpsL.nil ?_; (change Trip _ _ _ _ _)))
 ·have hlt : i < q.pl := by omega
  have hg := z4R X.ns (c3 + i + 1) (m := (R.length : Int)) (by omega);obtain ⟨ra, rk, hrv⟩ := OwnC.slice zR hrow;rw [hrv] at hrow t14
  repeat (first | (refine zc (by exact z1g) ?_))
  refine OpsL.c2 (hf := z3k) (hc := (zfy W0 h.b h.n (by omega) (by omega) (by show c3 + i ≤ _; omega))) (h := ?_);rintro vg nx1 H1 ⟨rfl, τ, rfl, rfl, hx, hb⟩;replace h := h.next hx hb;have hrow1 := zm hx (by simp) hrow;replace hre := zm hx (by simp) hre;obtain ⟨pp, rfl, hcc⟩ := (OwnC.ints hrow1).atI hg.1 hg.2;refine zcc ?_;refine z0i (σ := τ) (enc := z1L) (z := R.getD (z6f X.ns (c3 + i + 1) R.length).toNat 0) (el := 3) rfl evd krf sdc ?_;intro σ2 x2 hu;replace h := h.loc x2 (by simp);replace hre := zm x2 (by simp) hre;have hrow2 := zm x2 (by simp) hrow1;refine zT (bytes := 8) (z := [.int .i64 0]) zR z0I hre hu xrf xrf xrf xrf xrf rfl (by simp [z0U]; omega) (by omega) evd evd sdc ?_;intro v3 σ3 hre3 x3;replace h := h.loc x3 (by simp [zdv, hlen]);have hrow3 := zm x3 (by simp) hrow2;refine zfF ?_;rw [← z3b X.ns (fun _ => R)] at hre3;refine zfo ?_;exact ⟨i + 1, ⟨_, σ3, v3, rfl, ⟨stp, stp, stp, stp, stp, stp⟩, stp, stp, stp, stp, stp, stp, by omega, h, by rw [hrv]; exact hrow3, hre3⟩, by omega⟩
 ·repeat (first | (refine Trip.exit ?_; ((repeat (refine zD ?_)); dsimp only)))
  have hi2 : i = q.pl := by omega
  subst hi2;exact hQ _ σ v ⟨stp, stp, stp, stp, stp, stp⟩ stp stp stp stp stp h hrow hre
set_option maxRecDepth 20000 in
set_option maxHeartbeats 16000000 in
theorem zh9 (W0 : World) {σ0 σ : CH} {X : MkX} {q : MkP} {D : MkD} {V : MoV} {tm : Nat → Value} {n : Nat} {p c3 : Nat} {c : Int} {R : List Int} {lv : Value} {vin : Value} {lin : List Int} (hq : q.ok) (hn0 : n = 220) (hcl : X.cl = q.cl) (ht : T1 tm X q) (h13 : tm 13 = .int .i64 p) (h14 : tm 14 = lv) (h15 : tm 15 = vin) (h16 : tm 16 = .slice none 0 0) (h17 : tm 17 = .slice none 0 0) (h19 : tm 19 = .int .i64 0)
  (hlen1 : D.I.length = p) (hlen : D.W.length = p) (hL : D.L.length = q.n) (hp : p < q.n) (hc : D.L.getD p 0 = c) (hc3 : D.cnt = c3) (hb3 : c3 ≤ 1000) (hR : R ≠ []) (hRl : R.length ≤ 1000) (hrow : RowI (.tab c.toNat) σ lv R) (hin : RowI (.inn1 p) σ vin lin) (h : MkS σ0 σ X D V) {Q : AExit → ASt → Prop}
  (hQ : ∀ tm' σ' v', T1 tm' X q → tm' 13 = .int .i64 p → tm' 14 = lv → tm' 15 = vin → tm' 16 = v' → tm' 17 = .slice none 0 0 → MkS σ0 σ' X { D with cnt := c3 + (if c = 0 then q.cl else 0) } V → RowI (.tab c.toNat) σ' lv R → RowI (.inn1 p) σ' vin lin → RowI (.low1 p) σ' v' (z0t X.ns (fun _ => R) c3 (if c = 0 then q.cl else 0)) → Q .normal ⟨tm', n, σ'.H, σ'.nx⟩) : Trip Try.prog W0 (z3t [1, 1, 1, 1, 1, 1, 1, 1, 1, 0, 1, 2, 2, 1, 0, 2, 1, 1, 1, 1, 0, 1] (z0B Try.f7)) ⟨tm, n, σ.H, σ.nx⟩ Q := by
 obtain ⟨z1, z2, z3, z4, z5, z6⟩ := hq;have hR0 : 0 < R.length := List.length_pos_iff.2 hR;obtain ⟨lim, hlim⟩ : ∃ m, (if c = 0 then q.cl else 0) = m := ⟨_, rfl⟩;rw [hlim] at hQ;have hlim2 : lim ≤ q.cl := by rw [← hlim]; split <;> omega
 refine Trip.block ?_;refine zG (fun (i : Nat) s => ∃ tm σ v, s = ⟨tm, n, σ.H, σ.nx⟩ ∧ T1 tm X q ∧ tm 13 = .int .i64 p ∧ tm 14 = lv ∧ tm 15 = vin ∧ tm 16 = v ∧ tm 17 = .slice none 0 0 ∧ tm 19 = .int .i64 i ∧ i ≤ lim ∧ MkS σ0 σ X { D with cnt := c3 + i } V ∧ RowI (.tab c.toNat) σ lv R ∧ RowI (.inn1 p) σ vin lin ∧ RowI (.low1 p) σ v (z0t X.ns (fun _ => R) c3 i)) (fun i => lim - i) 0 ?_ ?_
 ·exact ⟨tm, σ, _, rfl, ht, h13, h14, h15, h16, h17, h19, by omega, by rw [Nat.add_zero, ← hc3]; exact h, hrow, hin, OwnC.nil⟩
 clear h ht h13 h14 h15 h16 h17 h19 hrow hc3 hin;rintro i s ⟨tm, σ, v, rfl, ⟨t4, t5, t6, t7, t8, t9⟩, t13, t14, t15, t16, t17, t19, hi, h, hrow, hin, hre⟩;have g1 : zf σ.H ⟨X.A, 1, none⟩ (.int .i64 X.cl) := h.a.cell rfl;rw [hcl] at g1;have g2 : zf σ.H ⟨X.A, 2, none⟩ V.o := h.a.cell rfl;obtain ⟨bo, hvo, hbo⟩ := h.of.block;replace hvo : V.o = .slice (some ⟨bo, 0, none⟩) D.L.length D.L.length := hvo;rw [hvo] at g2
 have g3 : zf σ.H ⟨bo, 0 + p * 1, none⟩ (.int .i64 c) := by
  rw [Nat.zero_add, Nat.mul_one];refine hbo.cell ?_;show (D.L.map (Value.int .i64 ·))[p]? = _;rw [List.getElem?_map, List.getElem?_eq_getElem (by omega), ← hc, List.getD_eq_getElem?_getD, List.getElem?_eq_getElem (by omega)];rfl
 refine Trip.seq (Trip.seq ?_);refine Trip.mono (Q := fun e st => e = .normal ∧ ∃ tm', st = ⟨tm', n, σ.H, σ.nx⟩ ∧ T1 tm' X q ∧ tm' 13 = .int .i64 p ∧ tm' 14 = lv ∧ tm' 15 = vin ∧ tm' 16 = v ∧ tm' 17 = .slice none 0 0 ∧ tm' 19 = .int .i64 i ∧ tm' 147 = .bool (decide (i < lim))) ?_ ?_
 ·repeat (first | (refine zc (by first | exact omv | exact ofa | exact old) ?_) | (refine zd ?_))
  by_cases hic : i < q.cl
  ·refine z0y ?_
   repeat (first | (refine zc (by first | exact omv | exact ofa | exact old | exact z1j) ?_) | (refine zB ?_))
   by_cases h0 : c = 0
   ·refine z0H ?_ (c := h0);rw [if_pos h0] at hlim;subst hlim;have hd : decide (i < q.cl) = true := decide_eq_true hic;clear h0;refine zdy ?_;exact ⟨rfl, _, rfl, ⟨stp, stp, stp, stp, stp, stp⟩, stp, stp, stp, stp, stp, stp, stp⟩
   ·refine z30 ?_ (c := h0);rw [if_neg h0] at hlim;subst hlim;have hd : decide (i < 0) = false := rfl;clear h0;refine zdy ?_;exact ⟨rfl, _, rfl, ⟨stp, stp, stp, stp, stp, stp⟩, stp, stp, stp, stp, stp, stp, stp⟩
  ·refine z0z ?_;have hd : decide (i < lim) = false := decide_eq_false (by omega)
   repeat (first | (refine zc (by first | exact omv | exact z3u) ?_) | (refine OpsL.nil ?_; (dsimp only)) | (refine z0e ?_))
   exact ⟨rfl, _, rfl, ⟨stp, stp, stp, stp, stp, stp⟩, stp, stp, stp, stp, stp, stp, stp⟩
 clear t4 t5 t6 t7 t8 t9 t13 t14 t15 t16 t17 t19;rintro e st ⟨rfl, tm, rfl, ⟨t4, t5, t6, t7, t8, t9⟩, t13, t14, t15, t16, t17, t19, t147⟩
 (change Trip _ _ _ _ _)
 by_cases hlt : i < lim
 ·rw [decide_eq_true hlt] at t147;refine z07 ?_
  repeat (first | (refine zc (by exact omv) ?_) | (refine Trip.seq ?_) | (refine zd ?_) | (refine Trip.block ?_) | (refine Trip.skip ?_; (change Trip _ _ _ _ _)))
  have hg := z4R X.ns (c3 + i + 1) (m := (R.length : Int)) (by omega);obtain ⟨ra, rk, hrv⟩ := OwnC.slice zR hrow;rw [hrv] at hrow t14
  repeat (first | (refine zc (by exact z1g) ?_))
  refine OpsL.c2 (hf := z3k) (hc := (zfy W0 h.b h.n (by omega) (by omega) (by show c3 + i ≤ _; omega))) (h := ?_);rintro vg nx1 H1 ⟨rfl, τ, rfl, rfl, hx, hb⟩;replace h := h.next hx hb;replace hin := zm hx (by simp) hin;have hrow1 := zm hx (by simp) hrow;replace hre := zm hx (by simp) hre;obtain ⟨pp, rfl, hcc⟩ := (OwnC.ints hrow1).atI hg.1 hg.2;refine zcc ?_;refine z0i (σ := τ) (enc := z1L) (z := R.getD (z6f X.ns (c3 + i + 1) R.length).toNat 0) (el := 3) rfl evd krf sdc ?_;intro σ2 x2 hu;replace h := h.loc x2 (by simp);replace hin := zm x2 (by simp) hin;replace hre := zm x2 (by simp) hre;have hrow2 := zm x2 (by simp) hrow1;refine zT (bytes := 8) (z := [.int .i64 0]) zR z0I hre hu xrf xrf xrf xrf xrf rfl (by simp [z0U]; omega) (by omega) evd evd sdc ?_;intro v3 σ3 hre3 x3;replace h := h.loc x3 (by simp [zdv, hlen]);replace hin := zm x3 (by simp) hin;have hrow3 := zm x3 (by simp) hrow2;refine zfF ?_;rw [← z3b X.ns (fun _ => R)] at hre3;refine zfo ?_;exact ⟨i + 1, ⟨_, σ3, v3, rfl, ⟨stp, stp, stp, stp, stp, stp⟩, stp, stp, stp, stp, stp, stp, by omega, h, by rw [hrv]; exact hrow3, hin, hre3⟩, by omega⟩
 ·rw [decide_eq_false hlt] at t147;refine z2r ?_;refine zeD ?_;have hi2 : i = lim := by omega
  subst hi2;exact hQ _ σ v ⟨stp, stp, stp, stp, stp, stp⟩ stp stp stp stp stp h hrow hin hre
end Go.Proofs.Ytjgbcpagfghfnaa

import Derived.Test.YtjgbcpagfghfnaaQYM48
import Derived.Test.YtjgbcpagfghfnaaQYM15
import Derived.Test.YtjgbcpagfghfnaaQYM31
set_option linter.unusedVariables false
set_option linter.unusedSimpArgs false
set_option linter.unnecessarySimpa false
namespace Go.Proofs.Ytjgbcpagfghfnaa
open Go.Am Go.RowKit
attribute [local irreducible] aop OpsL Trip zt z1X z1E OpsR OpsQ
structure SmS (σ0 σ : CH) (cb O R : Nat) (pl cl : Int) (cls L : List Int) (lv : Value) (D : Mo) (V : MoV) : Prop where
 old : OldC σ0 σ
 c : ObC .tmp σ cb (.cells (cls.map (.int .i64 ·)) 1 none false (some 3))
 l : OwnC z1L 3 .next σ lv L
 a : ObC .self σ O (z4q pl cl V)
 r : ObC .table σ R (.cells (moV z1O z2j) 0 none false (some 29))
 of : OwnC z1L 3 .of σ V.o D.of
 en : OwnC z1L 3 .entry σ V.e D.entry
 fi : OwnC z3v 4 .final σ V.f D.final
 inn : Row2 .inn1 .inn σ V.i D.inn
 low : Row2 .low1 .low σ V.l D.low
 ret : Row3 σ V.r D.ret
def zeI (D : Mo) : Co → Prop
 | .inn1 p => D.inn.length ≤ p
 | .low1 p => D.low.length ≤ p
 | .ret1 p => D.ret.length ≤ p
 | .ret2 p _ => D.ret.length ≤ p
 | _ => False
theorem SmS.loc {σ0 σ τ : CH} {cb O R : Nat} {pl cl : Int} {cls L : List Int} {lv : Value} {D : Mo} {V : MoV} {S : List Co} (h : SmS σ0 σ cb O R pl cl cls L lv D V) (hc : Chg S σ τ) (hS : ∀ c ∈ S, zeI D c) : SmS σ0 τ cb O R pl cl cls L lv D V :=
 ⟨h.old.keep hc (fun q => hS _ q), h.c.keep hc (fun q => hS _ q), h.l.keep hc (fun q => hS _ q), h.a.keep hc (fun q => hS _ q), h.r.keep hc (fun q => hS _ q), h.of.keep hc (fun q => hS _ q), h.en.keep hc (fun q => hS _ q), h.fi.keep hc (fun q => hS _ q), ze hc (fun q => hS _ q) (fun p hp => fun q => absurd (hS _ q) (by simp [zeI]; omega)) h.inn, ze hc (fun q => hS _ q) (fun p hp => fun q => absurd (hS _ q) (by simp [zeI]; omega)) h.low, zN hc (fun q => hS _ q) (fun p hp => fun q => absurd (hS _ q) (by simp [zeI]; omega)) (fun p j hp => fun q => absurd (hS _ q) (by simp [zeI]; omega)) h.ret⟩
theorem SmS.cls {σ0 σ : CH} {cb O R : Nat} {pl cl : Int} {cls L : List Int} {lv : Value} {D : Mo} {V : MoV} {k : Nat} (h : SmS σ0 σ cb O R pl cl cls L lv D V) (hk : cls.length = k) : IntsAt σ.H (.slice (some ⟨cb, 0, none⟩) k k) cls := z6I hk h.c
theorem SmS.cell {σ0 σ : CH} {cb O R : Nat} {pl cl : Int} {cls L : List Int} {lv : Value} {D : Mo} {V : MoV} {x : Int} (h : SmS σ0 σ cb O R pl cl cls L lv D V) (h0 : 0 ≤ x) (h1 : x < (cls.length : Int)) : zf σ.H ⟨cb, 0 + x.toNat * 1, none⟩ (.int .i64 (cls.getD x.toNat 0)) := z33 h.c (by omega)
theorem z38 {α : Type} {enc : α → List Value} {el : TypeId} {c : Co} {σ : CH} {b : Nat} {z : α} {v : Value} (he : enc z = [v]) (h : ObC c σ b (.cells [v] 1 none false (some el))) : RowsAt enc 1 σ.H (.slice (some ⟨b, 0, none⟩) 1 1) [z] := by
 refine .inr ⟨⟨b, 0, none⟩, 1, rfl, fun i hi => ?_⟩;have hi0 : i = 0 := by simpa using hi
 subst hi0;rw [List.getElem_cons_zero, he];exact z0d h.2.2 rfl
set_option maxRecDepth 20000 in
set_option maxHeartbeats 16000000 in
theorem zeZ (W0 : World) {σ0 σ : CH} {nx cb R n : Nat} {cls : List Int} {k : Nat} {tm : Nat → Value} (hn0 : n = 164) (hk : k ≤ 1000) (hl : PLift (cls.length = k)) (t1 : tm 1 = .pointer (some ⟨nx, 0, none⟩)) (t2 : tm 2 = .pointer (some ⟨R, 0, none⟩)) (t4 : tm 4 = .slice (some ⟨cb, 0, none⟩) k k) (t5 : tm 5 = .slice none 0 0) (t6 : tm 6 = .int .i64 0) (ho : OldC σ0 σ) (hc : ObC .tmp σ cb (.cells (cls.map (.int .i64 ·)) 1 none false (some 3))) (hr : ObC .table σ R (.cells (moV z1O z2j) 0 none false (some 29)))
  {Q : AExit → ASt → Prop} (hQ : ∀ (tm' : Nat → Value) (τ : CH) (v : Value), tm' 1 = .pointer (some ⟨nx, 0, none⟩) → tm' 2 = .pointer (some ⟨R, 0, none⟩) → tm' 4 = .slice (some ⟨cb, 0, none⟩) k k → tm' 5 = v → OldC σ0 τ → ObC .tmp τ cb (.cells (cls.map (.int .i64 ·)) 1 none false (some 3)) → ObC .table τ R (.cells (moV z1O z2j) 0 none false (some 29)) → OwnC z1L 3 .next τ v (zA cls) → Q .normal ⟨tm', n, τ.H, τ.nx⟩) : Trip Try.prog W0 (z3t [1, 1, 1, 1, 0, 1] (z0B Try.f9)) ⟨tm, n, σ.H, σ.nx⟩ Q := by
 refine Trip.block ?_;refine zG (fun (i : Nat) s => ∃ tm σ v, s = ⟨tm, n, σ.H, σ.nx⟩ ∧ tm 1 = .pointer (some ⟨nx, 0, none⟩) ∧ tm 2 = .pointer (some ⟨R, 0, none⟩) ∧ tm 4 = .slice (some ⟨cb, 0, none⟩) k k ∧ tm 5 = v ∧ tm 6 = .int .i64 i ∧ i ≤ k ∧ OldC σ0 σ ∧ ObC .tmp σ cb (.cells (cls.map (.int .i64 ·)) 1 none false (some 3)) ∧ ObC .table σ R (.cells (moV z1O z2j) 0 none false (some 29)) ∧ OwnC z1L 3 .next σ v (z05 cls i)) (fun i => k - i) 0 ?_ ?_
 ·exact ⟨tm, σ, _, rfl, t1, t2, t4, t5, t6, by omega, ho, hc, hr, OwnC.nil⟩
 clear t1 t2 t4 t5 t6 ho hc hr;rintro i s ⟨tm, σ, v, rfl, t1, t2, t4, t5, t6, hi, ho, hc, hr, hv⟩;have hll := z2Q cls i;obtain ⟨va, vc, rfl⟩ := OwnC.slice zR hv
 repeat (first | (refine zc (by first | exact omv | exact z1g | exact z24) ?_) | (refine Trip.seq ?_) | (refine zd ?_) | (refine Trip.block ?_) | (refine zJ (fun _ => ?_) (fun _ => ?_)) | (refine Trip.skip ?_; (change Trip _ _ _ _ _)) | (refine OpsL.nil ?_; (change Trip _ _ _ _ _)))
 ·have hlt : i < k := by omega
  have c1 := z33 hc (i := i) (by have := hl.down; omega);have hstep : z05 cls (i + 1) = if cls.getD i 0 = (z05 cls i).length then z05 cls i ++ [(i : Int)] else z05 cls i := rfl
  obtain ⟨x, hx⟩ : ∃ x, cls.getD i 0 = x := ⟨_, rfl⟩;rw [hx] at c1 hstep;clear hx;generalize z05 cls i = L at *
  repeat (first | (refine zc (by first | exact omv | exact z1j | exact old | exact z1g) ?_))
  by_cases he : x = (L.length : Int)
  ·refine z0H ?_ (c := he);rw [if_pos he] at hstep;refine z9O ?_;refine zfl ?_;refine z0i (σ := σ) (enc := z1L) (z := (i : Int)) (el := 3) rfl evd krf sdc ?_;intro σ2 x2 hu;replace ho := ho.keep x2 (by simp);replace hc := hc.keep x2 (by simp);replace hr := hr.keep x2 (by simp);replace hv := hv.keep x2 (by simp);refine zT (bytes := 8) (z := [.int .i64 0]) zR z0I hv hu xrf xrf xrf xrf xrf rfl (by simp; omega) (by omega) evd evd sdc ?_;intro v3 σ3 hv3 x3;replace ho := ho.keep x3 (by simp);replace hc := hc.keep x3 (by simp);replace hr := hr.keep x3 (by simp);rw [← hstep] at hv3;clear hv hu c1 x2 x3 he;refine zfN ?_;exact ⟨i + 1, ⟨_, σ3, v3, rfl, stp, stp, stp, stp, stp, by omega, ho, hc, hr, hv3⟩, by omega⟩
  ·refine z30 ?_ (c := he);rw [if_neg he] at hstep;refine z68 ?_;rw [← hstep] at hv;clear he;refine z9R ?_;exact ⟨i + 1, ⟨_, σ, .slice va (z05 cls (i + 1)).length vc, rfl, stp, stp, stp, stp, stp, by omega, ho, hc, hr, hv⟩, by omega⟩
 ·have hie : i = k := by omega
  subst hie;have hlk := hl.down;refine zeD ?_;exact hQ _ σ (.slice va (z05 cls i).length vc) stp stp stp stp ho hc hr (by unfold zA; rw [hlk]; exact hv)
set_option maxRecDepth 20000 in
set_option maxHeartbeats 16000000 in
theorem zf0 (W0 : World) {σ0 σ : CH} {nx cb O R n : Nat} {m : Mo} {V0 : MoV} {lv : Value} {pl cl : Int} {cls L : List Int} {V : MoV} {D : Mo} {tm : Nat → Value} (hn0 : n = 164) (hmod : ModOk m) (hl : cls.length = m.of.length) (hFA : ∀ {N : Nat} {H' : Heap}, Ext σ0.nx σ0.H N H' → MoBox H' nx m V0 ∧ MoIn H' m V0) (t1 : tm 1 = .pointer (some ⟨nx, 0, none⟩)) (t2 : tm 2 = .pointer (some ⟨R, 0, none⟩)) (t4 : tm 4 = .slice (some ⟨cb, 0, none⟩) m.of.length m.of.length) (t5 : tm 5 = lv) (t7 : tm 7 = .pointer (some ⟨O, 0, none⟩)) (t8 : tm 8 = .int .i64 0) (hD : D.entry = []) (h : SmS σ0 σ cb O R pl cl cls L lv D V)
  {Q : AExit → ASt → Prop} (hQ : ∀ tm' τ V', tm' 1 = .pointer (some ⟨nx, 0, none⟩) → tm' 2 = .pointer (some ⟨R, 0, none⟩) → tm' 4 = .slice (some ⟨cb, 0, none⟩) m.of.length m.of.length → tm' 5 = lv → tm' 7 = .pointer (some ⟨O, 0, none⟩) → SmS σ0 τ cb O R pl cl cls L lv { D with entry := zC cls m.entry } V' → Q .normal ⟨tm', n, τ.H, τ.nx⟩) : Trip Try.prog W0 (z3t [1, 1, 1, 1, 1, 1, 0, 1] (z0B Try.f9)) ⟨tm, n, σ.H, σ.nx⟩ Q := by
 have hk := hmod.k;have hn60 := hmod.n.2;obtain ⟨d1, d2, d3, d4, d5, d6, d7, d8⟩ := D;simp only at hD;subst hD;refine Trip.block ?_;refine zG (fun (i : Nat) s => ∃ tm σ V, s = ⟨tm, n, σ.H, σ.nx⟩ ∧ tm 1 = .pointer (some ⟨nx, 0, none⟩) ∧ tm 2 = .pointer (some ⟨R, 0, none⟩) ∧ tm 4 = .slice (some ⟨cb, 0, none⟩) m.of.length m.of.length ∧ tm 5 = lv ∧ tm 7 = .pointer (some ⟨O, 0, none⟩) ∧ tm 8 = .int .i64 i ∧ i ≤ m.entry.length ∧ SmS σ0 σ cb O R pl cl cls L lv ⟨d1, d2, d3, zC cls (m.entry.take i), d5, d6, d7, d8⟩ V) (fun i => m.entry.length - i) 0 ?_ ?_
 ·exact ⟨tm, σ, V, rfl, t1, t2, t4, t5, t7, t8, by omega, h⟩
 clear t1 t2 t4 t5 t7 t8 h;rintro i s ⟨tm, σ, V, rfl, t1, t2, t4, t5, t7, t8, hi, h⟩;obtain ⟨hb, hG⟩ := hFA h.old.ext;obtain ⟨ea, ec, ev⟩ := hG.entry.slice;have eh := hG.entry;have g3 := hb.c3;rw [ev] at eh g3
 repeat (first | (refine zc (by first | exact omv | exact ofa | exact old | exact z1g | exact z24) ?_) | (refine Trip.seq ?_) | (refine zd ?_) | (refine Trip.block ?_) | (refine zJ (fun _ => ?_) (fun _ => ?_)) | (refine Trip.skip ?_; (change Trip _ _ _ _ _)) | (refine OpsL.nil ?_; (change Trip _ _ _ _ _)))
 ·have hlt : i < m.entry.length := by omega
  obtain ⟨q1, rfl, hc1⟩ := eh.atI (show (0 : Int) ≤ i by omega) (show (i : Int) < m.entry.length by omega);rw [Int.toNat_natCast] at hc1;have hm := (hmod.entry i hlt).1
  have hsn : zC cls (m.entry.take (i + 1)) = zC cls (m.entry.take i) ++ [cls.getD (m.entry.getD i 0).toNat 0] := by
   unfold zC;rw [List.take_succ_eq_append_getElem hlt, List.map_append, List.getD_eq_getElem?_getD (l := m.entry), List.getElem?_eq_getElem hlt]; rfl
  have hml : (zC cls (m.entry.take i)).length ≤ 1000 := by rw [z0r, List.length_take]; omega
  obtain ⟨x, hx⟩ : ∃ x, m.entry.getD i 0 = x := ⟨_, rfl⟩;rw [hx] at hc1 hm hsn;have hc2 := h.cell hm.1 (show x < (cls.length : Int) by omega);have ga : zf σ.H ⟨O, 3, none⟩ V.e := h.a.cell rfl;clear hx hb hG eh ev
  repeat fail
  refine OpsQ.drawn [10, 11, 13] (K := fun j _ H => j = 11 → zf H ⟨O, 3, none⟩ V.e) zU krf krf [0, 1, 2, 3, 4, 5, 6, 7, 8, 9, 10, 11, 12, 13] krf (fun _ _ _ => ga) ?_;refine z5s ?_;refine z00 11 (v := V.e) rfl krf sdc (fun _ => ga) (fun H2 nx2 hK => z0a evr xrf rfl (hK rfl)) ?_;refine zg3 ?_;refine zg5 ?_;refine zg8 ?_;refine zg4 ?_;refine zc2 ?_;refine z5t ?_;refine z1K ?_;refine z0i (σ := σ) (enc := z1L) (z := cls.getD x.toNat 0) (el := 3) rfl evd krf sdc ?_;intro σ2 x2 hu;replace h := h.loc x2 (by simp);refine OpsL.nil ⟨fun _ _ _ => h.a.cell rfl, ?_⟩;refine z1K ?_;refine zT (bytes := 8) (z := [.int .i64 0]) zR z0I h.en hu xrf xrf xrf xrf xrf rfl (by simp; omega) (by omega) evd evd sdc ?_;intro v3 σ3 hown x3;have ha3 := h.a.keep x3 (by simp);obtain ⟨wa, wk, rfl⟩ := OwnC.slice zR hown;refine OpsL.nil ⟨fun k hk e => absurd hk (by subst e; simp), ?_⟩;refine z67 ?_;refine zP (k := 3) (v := .slice wa (zC cls (m.entry.take i) ++ [cls.getD x.toNat 0]).length wk) (cs' := moC pl cl { V with e := .slice wa (zC cls (m.entry.take i) ++ [cls.getD x.toNat 0]).length wk }) ha3 (by simp [moC]) rfl xrf rfl rfl evr evd rfl ?_;intro τ hat xt _;have xx := x3.trans2 (U := [.entry, .self]) xt (fun c hc => by simp at hc; simp [hc]) (fun c hc => by simp at hc; simp [hc])
  have h9 : SmS σ0 τ cb O R pl cl cls L lv ⟨d1, d2, d3, zC cls (m.entry.take (i + 1)), d5, d6, d7, d8⟩ { V with e := .slice wa (zC cls (m.entry.take i) ++ [cls.getD x.toNat 0]).length wk } :=
   ⟨h.old.keep xx (by simp), h.c.keep xx (by simp), h.l.keep xx (by simp), hat, h.r.keep xx (by simp), h.of.keep xx (by simp), by rw [hsn]; exact hown.keep xt (by simp), h.fi.keep xx (by simp), ze xx (by simp) (fun _ _ => by simp) h.inn, ze xx (by simp) (fun _ _ => by simp) h.low, zN xx (by simp) (fun _ _ => by simp) (fun _ _ _ => by simp) h.ret⟩
  clear h hu hown ha3 x2 x3 xt xx hat;refine OpsL.nil ⟨fun k hk => absurd hk (by simp), ?_⟩;refine OpsQ.nil ?_;refine zc4 ?_;exact ⟨i + 1, ⟨_, τ, _, rfl, stp, stp, stp, stp, stp, stp, by omega, h9⟩, by omega⟩
 ·have hie : i = m.entry.length := by omega
  rw [hie, List.take_length] at h;refine zfm ?_;exact hQ _ σ V stp stp stp stp stp h
end Go.Proofs.Ytjgbcpagfghfnaa

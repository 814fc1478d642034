import Derived.Test.YtjgbcpagfghfnaaQXM48
import Derived.Test.YtjgbcpagfghfnaaQXM15
set_option linter.unusedVariables false
set_option linter.unusedSimpArgs false
namespace Go.Proofs.Ytjgbcpagfghfnaa
open Go.Am Go.RowKit
attribute [local irreducible] aop OpsL Trip blockExit OpsD OpsK OpsR OpsQ
structure SmH (σ0 σ : CH) (cb O R : Nat) (pl cl : Int) (cls L : List Int) (lv : Value) (D : Mo) (V : MoV) : Prop where
 old : OldC σ0 σ
 c : ObC .tmp σ cb (.cells (cls.map (.int .i64 ·)) 1 none false (some 3))
 l : OwnC encN 3 .next σ lv L
 a : ObC .self σ O (mObj pl cl V)
 r : ObC .table σ R (.cells (moV noMo nilV) 0 none false (some 29))
 en : OwnC encN 3 .entry σ V.e D.entry
 inn : Row2 .inn1 .inn σ V.i D.inn
 low : Row2 .low1 .low σ V.l D.low
 ret : Row3 σ V.r D.ret
theorem SmH.keep {σ0 σ τ : CH} {cb O R : Nat} {pl cl : Int} {cls L : List Int} {lv : Value} {D : Mo} {V : MoV} {S : List Co} (h : SmH σ0 σ cb O R pl cl cls L lv D V) (hc : Chg S σ τ) (hS : ∀ c ∈ S, c = .of ∨ c = .final) : SmH σ0 τ cb O R pl cl cls L lv D V := by
 have hn : ∀ c : Co, c ≠ .of → c ≠ .final → c ∉ S := fun c h1 h2 hm => by rcases hS c hm with e | e; exact h1 e; exact h2 e
 exact ⟨h.old.keep hc (hn _ (by simp) (by simp)), h.c.keep hc (hn _ (by simp) (by simp)), h.l.keep hc (hn _ (by simp) (by simp)), h.a.keep hc (hn _ (by simp) (by simp)), h.r.keep hc (hn _ (by simp) (by simp)), h.en.keep hc (hn _ (by simp) (by simp)), Row2.keepL hc (hn _ (by simp) (by simp)) (fun _ _ => hn _ (by simp) (by simp)) h.inn, Row2.keepL hc (hn _ (by simp) (by simp)) (fun _ _ => hn _ (by simp) (by simp)) h.low, Row3.keepL hc (hn _ (by simp) (by simp)) (fun _ _ => hn _ (by simp) (by simp)) (fun _ _ _ => hn _ (by simp) (by simp)) h.ret⟩
set_option maxRecDepth 20000 in
set_option maxHeartbeats 16000000 in
theorem smOf (W0 : World) {σ0 σ : CH} {nx cb O R c P n : Nat} {m : Mo} {V0 : MoV} {lv : Value} {pl cl : Int} {cls L : List Int} {D : Mo} {V : MoV} {tm : Nat → Value} (hn0 : n = 164) (hmod : ModOk m) (hl : cls.length = m.of.length) (ok0 : ∀ id o, σ0.H id = some o → id < σ0.nx) (hFA : ∀ {N : Nat} {H' : Heap}, Ext σ0.nx σ0.H N H' → MoBox H' nx m V0 ∧ MoIn H' m V0) (hP : P < m.of.length) (t1 : tm 1 = .pointer (some ⟨nx, 0, none⟩)) (t2 : tm 2 = .pointer (some ⟨R, 0, none⟩)) (t4 : tm 4 = .slice (some ⟨cb, 0, none⟩) m.of.length m.of.length) (t5 : tm 5 = lv) (t7 : tm 7 = .pointer (some ⟨O, 0, none⟩)) (t9 : tm 9 = .int .i64 (c : Nat)) (t10 : tm 10 = .int .i64 (P : Nat)) (h : SmS σ0 σ cb O R pl cl cls L lv D V) (hlo : D.of.length ≤ 1000) (hlf : D.final.length ≤ 1000) {Q : AExit → ASt → Prop} (hQ : ∀ tm' τ V', tm' 1 = .pointer (some ⟨nx, 0, none⟩) → tm' 2 = .pointer (some ⟨R, 0, none⟩) → tm' 4 = .slice (some ⟨cb, 0, none⟩) m.of.length m.of.length → tm' 5 = lv → tm' 7 = .pointer (some ⟨O, 0, none⟩) → tm' 9 = .int .i64 (c : Nat) → tm' 10 = .int .i64 (P : Nat) → SmS σ0 τ cb O R pl cl cls L lv { D with of := D.of ++ [m.of.getD P 0], final := D.final ++ [m.final.getD P false] } V' → Q .normal ⟨tm', n, τ.H, τ.nx⟩) : Trip Try.prog W0 (subC [1, 1, 1, 1, 1, 1, 1, 0, 1, 2, 2, 1, 0, 2, 1, 0] (bodyMk Try.f9)) ⟨tm, n, σ.H, σ.nx⟩ Q := by
 obtain ⟨hb, hG⟩ := hFA (N := σ0.nx) (H' := σ0.H) Ext.refl
 obtain ⟨oa, oc, ov⟩ := hG.of.slice
 have oh := hG.of
 have g2 := hb.c2
 rw [ov] at oh g2
 obtain ⟨fa, fc, fv⟩ := hG.final.slice
 have fh := hG.final
 have g4 := hb.c4
 rw [fv] at fh g4
 have hfl := hmod.fl
 obtain ⟨q1, rfl, hc1⟩ := IntsAt.atI oh (show (0 : Int) ≤ P by omega) (show (P : Int) < m.of.length by omega)
 rw [Int.toNat_natCast] at hc1
 obtain ⟨q2, rfl, hc2⟩ := BoolsAt.atI fh (show (0 : Int) ≤ P by omega) (show (P : Int) < m.final.length by omega)
 rw [Int.toNat_natCast] at hc2
 have ga : cellAt σ.H ⟨O, 2, none⟩ V.o := h.a.cell rfl
 have gf : cellAt σ.H ⟨O, 4, none⟩ V.f := h.a.cell rfl
 obtain ⟨x, hx⟩ : ∃ x, m.of.getD P 0 = x := ⟨_, rfl⟩
 obtain ⟨y, hy⟩ : ∃ y, m.final.getD P false = y := ⟨_, rfl⟩
 rw [hx] at hc1 hQ
 rw [hy] at hc2 hQ
 have hPf : (P : Int) < m.final.length := by omega
 clear hx hy hb hG oh ov fh fv hFA hfl
 have hK0 : ∀ {N : Nat} {H : Heap}, Ext σ0.nx σ0.H N H → cellAt H ⟨O, 2, none⟩ V.o → cellAt H ⟨O, 4, none⟩ V.f → ∀ j : Nat, Ext σ0.nx σ0.H N H ∧ (j ≤ 17 → cellAt H ⟨O, 2, none⟩ V.o ∧ cellAt H ⟨O, 4, none⟩ V.f) := fun h1 h2 h3 j => ⟨h1, fun _ => ⟨h2, h3⟩⟩
 refine OpsQ.drawn [7, 8, 16, 17, 19, 21] (K := fun j N H => Ext σ0.nx σ0.H N H ∧ (j ≤ 17 → cellAt H ⟨O, 2, none⟩ V.o ∧ cellAt H ⟨O, 4, none⟩ V.f)) mixed13 krf krf [0, 1, 2, 3, 4, 5, 6, 9, 10, 11, 12, 13, 14, 15, 7, 8, 18, 16, 17, 19, 20, 21] krf (fun j _ => hK0 h.old.ext ga gf j) ?_
 refine zg4 ?_
 refine OpsQ.sp 8 (v := V.o) rfl krf sdc (hK0 h.old.ext ga gf 8) (fun H2 nx2 hK => aop_load evr xrf rfl (hK.2 (by decide)).1) ?_
 refine zg4 ?_
 refine OpsQ.sp 7 (v := .slice (some q1) m.of.length oc) rfl krf sdc (hK0 h.old.ext ga gf 7) (fun H2 nx2 hK => aop_load evr xrf rfl (cell_ext hK.1 ok0 g2)) ?_
 refine zg114 ?_
 refine OpsQ.sp 7 (v := .int .i64 x) rfl krf sdc (hK0 h.old.ext ga gf 7) (fun H2 nx2 hK => aop_load evr xrf rfl (cell_ext hK.1 ok0 hc1)) ?_
 refine zg4 ?_
 refine OpsQ.sp 17 (v := V.f) rfl krf sdc (hK0 h.old.ext ga gf 17) (fun H2 nx2 hK => aop_load evr xrf rfl (hK.2 (by decide)).2) ?_
 refine zg4 ?_
 refine OpsQ.sp 16 (v := .slice (some q2) m.final.length fc) rfl krf sdc (hK0 h.old.ext ga gf 16) (fun H2 nx2 hK => aop_load evr xrf rfl (cell_ext hK.1 ok0 g4)) ?_
 refine zg114 ?_
 refine OpsQ.sp 16 (v := .bool y) rfl krf sdc (hK0 h.old.ext ga gf 16) (fun H2 nx2 hK => aop_load evr xrf rfl (cell_ext hK.1 ok0 hc2)) ?_
 clear ga gf hc1 hc2 g2 g4
 have hst : SmH σ0 σ cb O R pl cl cls L lv D V := ⟨h.old, h.c, h.l, h.a, h.r, h.en, h.inn, h.low, h.ret⟩
 have hof := h.of
 have hfi := h.fi
 clear h
 refine OpsQ.go2 7 16 [8, 18, 16, 17, 19, 20, 21] [7, 8, 18, 17, 19, 20, 21] krf (ActStep.walk rfl rfl ?_) (ActStep.walk rfl rfl ?_)
 ·refine OpsL.newC .tmp (aop_buildSlice (l := [(0, .int .i64 x)]) (r := (.slice (some ⟨σ.nx, 0, none⟩) 1 1, .new (.cells [.int .i64 x] 1 none false (some 3)))) (by simp [evParts, ASt.ev, tmPut]) krf) sdc ?_
  intro σ7 hu7 x7
  obtain ⟨b7, hb7⟩ : ∃ b, σ.nx = b := ⟨_, rfl⟩
  rw [hb7] at hu7 ⊢
  replace hst := hst.keep x7 (by simp)
  replace hof := hof.keep x7 (by simp)
  replace hfi := hfi.keep x7 (by simp)
  refine OpsL.nil ⟨fun j _ => hK0 hst.old.ext (hst.a.cell rfl) (hst.a.cell rfl) j, ?_⟩
  refine OpsQ.go2 8 16 [18, 16, 17, 19, 20, 21] [8, 18, 17, 19, 20, 21] krf (ActStep.walk rfl rfl ?_) (ActStep.walk rfl rfl ?_)
  ·refine OpsL.appC (bytes := 8) (z := [.int .i64 0]) encN_len encN_one hof (lit_rows (enc := encN) (z := x) rfl hu7) xrf xrf xrf xrf xrf rfl (by simp; omega) (by omega) evd evd sdc ?_
   intro v8 σ8 hof8 x8
   replace hst := hst.keep x8 (by simp)
   replace hfi := hfi.keep x8 (by simp)
   clear hof hu7
   refine OpsL.nil ⟨fun j _ => hK0 hst.old.ext (hst.a.cell rfl) (hst.a.cell rfl) j, ?_⟩
   refine zg4 ?_
   refine OpsQ.go1 16 [17, 19, 20, 21] krf (ActStep.walk rfl rfl ?_)
   refine OpsL.newC .tmp (aop_buildSlice (l := [(0, .bool y)]) (r := (.slice (some ⟨σ8.nx, 0, none⟩) 1 1, .new (.cells [.bool y] 1 none false (some 4)))) (by simp [evParts, ASt.ev, tmPut]) krf) sdc ?_
   intro σ16 hu16 x16
   obtain ⟨b16, hb16⟩ : ∃ b, σ8.nx = b := ⟨_, rfl⟩
   rw [hb16] at hu16 ⊢
   replace hst := hst.keep x16 (by simp)
   replace hfi := hfi.keep x16 (by simp)
   replace hof8 := hof8.keep x16 (by simp)
   refine OpsL.nil ⟨fun j _ => hK0 hst.old.ext (hst.a.cell rfl) (hst.a.cell rfl) j, ?_⟩
   refine OpsQ.go1 17 [19, 20, 21] krf (ActStep.walk rfl rfl ?_)
   refine OpsL.appC (bytes := 1) (z := [.bool false]) encBo_len encBo_one hfi (lit_rows (enc := encBo) (z := y) rfl hu16) xrf xrf xrf xrf xrf rfl (by simp; omega) (by omega) evd evd sdc ?_
   intro v9 σ9 hfi9 x9
   replace hst := hst.keep x9 (by simp)
   replace hof8 := hof8.keep x9 (by simp)
   obtain ⟨wa, wk, rfl⟩ := OwnC.slice encN_len hof8
   obtain ⟨za, zk, rfl⟩ := OwnC.slice encBo_len hfi9
   refine OpsL.nil ⟨fun j hj => ⟨hst.old.ext, fun hj2 => absurd hj (by intro q; simp at q; omega)⟩, ?_⟩
   refine OpsQ.go1 19 [20, 21] krf (ActStep.walk rfl rfl ?_)
   refine OpsL.setC (k := 2) (v := .slice wa (D.of ++ [x]).length wk) (cs' := moC pl cl { V with o := .slice wa (D.of ++ [x]).length wk }) hst.a (by simp [moC]) rfl xrf rfl rfl evr evd rfl ?_
   intro τ1 hat1 xt1 _
   refine OpsL.nil ⟨fun j hj => ⟨(hst.old.keep xt1 (by simp)).ext, fun hj2 => absurd hj (by intro q; simp at q; omega)⟩, ?_⟩
   refine zg4 ?_
   refine OpsQ.go1 21 [] krf (ActStep.walk rfl rfl ?_)
   refine OpsL.setC (k := 4) (v := .slice za (D.final ++ [y]).length zk) (cs' := moC pl cl { V with o := .slice wa (D.of ++ [x]).length wk, f := .slice za (D.final ++ [y]).length zk }) hat1 (by simp [moC]) rfl xrf rfl rfl evr evd rfl ?_
   intro τ2 hat2 xt2 _
   have xx := xt1.trans xt2
   refine OpsL.nil ⟨fun k hk => absurd hk (by simp), ?_⟩
   refine OpsQ.nil ?_
   exact hQ _ τ2 { V with o := .slice wa (D.of ++ [x]).length wk, f := .slice za (D.final ++ [y]).length zk } stp stp stp stp stp stp stp ⟨hst.old.keep xx (by simp), hst.c.keep xx (by simp), hst.l.keep xx (by simp), hat2, hst.r.keep xx (by simp), hof8.keep xx (by simp), hst.en.keep xx (by simp), hfi9.keep xx (by simp), Row2.keepL xx (by simp) (fun _ _ => by simp) hst.inn, Row2.keepL xx (by simp) (fun _ _ => by simp) hst.low, Row3.keepL xx (by simp) (fun _ _ => by simp) (fun _ _ _ => by simp) hst.ret⟩
  ·refine OpsL.newC .tmp (aop_buildSlice (l := [(0, .bool y)]) (r := (.slice (some ⟨σ7.nx, 0, none⟩) 1 1, .new (.cells [.bool y] 1 none false (some 4)))) (by simp [evParts, ASt.ev, tmPut]) krf) sdc ?_
   intro σ16 hu16 x16
   obtain ⟨b16, hb16⟩ : ∃ b, σ7.nx = b := ⟨_, rfl⟩
   rw [hb16] at hu16 ⊢
   replace hst := hst.keep x16 (by simp)
   replace hfi := hfi.keep x16 (by simp)
   replace hof := hof.keep x16 (by simp)
   replace hu7 := hu7.keep x16 (by simp)
   refine OpsL.nil ⟨fun j _ => hK0 hst.old.ext (hst.a.cell rfl) (hst.a.cell rfl) j, ?_⟩
   refine OpsQ.go1 8 [18, 17, 19, 20, 21] krf (ActStep.walk rfl rfl ?_)
   refine OpsL.appC (bytes := 8) (z := [.int .i64 0]) encN_len encN_one hof (lit_rows (enc := encN) (z := x) rfl hu7) xrf xrf xrf xrf xrf rfl (by simp; omega) (by omega) evd evd sdc ?_
   intro v8 σ8 hof8 x8
   replace hst := hst.keep x8 (by simp)
   replace hfi := hfi.keep x8 (by simp)
   replace hu16 := hu16.keep x8 (by simp)
   clear hof hu7
   refine OpsL.nil ⟨fun j _ => hK0 hst.old.ext (hst.a.cell rfl) (hst.a.cell rfl) j, ?_⟩
   refine zg4 ?_
   refine OpsQ.go1 17 [19, 20, 21] krf (ActStep.walk rfl rfl ?_)
   refine OpsL.appC (bytes := 1) (z := [.bool false]) encBo_len encBo_one hfi (lit_rows (enc := encBo) (z := y) rfl hu16) xrf xrf xrf xrf xrf rfl (by simp; omega) (by omega) evd evd sdc ?_
   intro v9 σ9 hfi9 x9
   replace hst := hst.keep x9 (by simp)
   replace hof8 := hof8.keep x9 (by simp)
   obtain ⟨wa, wk, rfl⟩ := OwnC.slice encN_len hof8
   obtain ⟨za, zk, rfl⟩ := OwnC.slice encBo_len hfi9
   refine OpsL.nil ⟨fun j hj => ⟨hst.old.ext, fun hj2 => absurd hj (by intro q; simp at q; omega)⟩, ?_⟩
   refine OpsQ.go1 19 [20, 21] krf (ActStep.walk rfl rfl ?_)
   refine OpsL.setC (k := 2) (v := .slice wa (D.of ++ [x]).length wk) (cs' := moC pl cl { V with o := .slice wa (D.of ++ [x]).length wk }) hst.a (by simp [moC]) rfl xrf rfl rfl evr evd rfl ?_
   intro τ1 hat1 xt1 _
   refine OpsL.nil ⟨fun j hj => ⟨(hst.old.keep xt1 (by simp)).ext, fun hj2 => absurd hj (by intro q; simp at q; omega)⟩, ?_⟩
   refine zg4 ?_
   refine OpsQ.go1 21 [] krf (ActStep.walk rfl rfl ?_)
   refine OpsL.setC (k := 4) (v := .slice za (D.final ++ [y]).length zk) (cs' := moC pl cl { V with o := .slice wa (D.of ++ [x]).length wk, f := .slice za (D.final ++ [y]).length zk }) hat1 (by simp [moC]) rfl xrf rfl rfl evr evd rfl ?_
   intro τ2 hat2 xt2 _
   have xx := xt1.trans xt2
   refine OpsL.nil ⟨fun k hk => absurd hk (by simp), ?_⟩
   refine OpsQ.nil ?_
   exact hQ _ τ2 { V with o := .slice wa (D.of ++ [x]).length wk, f := .slice za (D.final ++ [y]).length zk } stp stp stp stp stp stp stp ⟨hst.old.keep xx (by simp), hst.c.keep xx (by simp), hst.l.keep xx (by simp), hat2, hst.r.keep xx (by simp), hof8.keep xx (by simp), hst.en.keep xx (by simp), hfi9.keep xx (by simp), Row2.keepL xx (by simp) (fun _ _ => by simp) hst.inn, Row2.keepL xx (by simp) (fun _ _ => by simp) hst.low, Row3.keepL xx (by simp) (fun _ _ => by simp) (fun _ _ _ => by simp) hst.ret⟩
 ·refine OpsL.newC .tmp (aop_buildSlice (l := [(0, .bool y)]) (r := (.slice (some ⟨σ.nx, 0, none⟩) 1 1, .new (.cells [.bool y] 1 none false (some 4)))) (by simp [evParts, ASt.ev, tmPut]) krf) sdc ?_
  intro σ16 hu16 x16
  obtain ⟨b16, hb16⟩ : ∃ b, σ.nx = b := ⟨_, rfl⟩
  rw [hb16] at hu16 ⊢
  replace hst := hst.keep x16 (by simp)
  replace hfi := hfi.keep x16 (by simp)
  replace hof := hof.keep x16 (by simp)
  refine OpsL.nil ⟨fun j _ => hK0 hst.old.ext (hst.a.cell rfl) (hst.a.cell rfl) j, ?_⟩
  refine OpsQ.go1 7 [8, 18, 17, 19, 20, 21] krf (ActStep.walk rfl rfl ?_)
  refine OpsL.newC .tmp (aop_buildSlice (l := [(0, .int .i64 x)]) (r := (.slice (some ⟨σ16.nx, 0, none⟩) 1 1, .new (.cells [.int .i64 x] 1 none false (some 3)))) (by simp [evParts, ASt.ev, tmPut]) krf) sdc ?_
  intro σ7 hu7 x7
  obtain ⟨b7, hb7⟩ : ∃ b, σ16.nx = b := ⟨_, rfl⟩
  rw [hb7] at hu7 ⊢
  replace hst := hst.keep x7 (by simp)
  replace hof := hof.keep x7 (by simp)
  replace hfi := hfi.keep x7 (by simp)
  replace hu16 := hu16.keep x7 (by simp)
  refine OpsL.nil ⟨fun j _ => hK0 hst.old.ext (hst.a.cell rfl) (hst.a.cell rfl) j, ?_⟩
  refine OpsQ.go1 8 [18, 17, 19, 20, 21] krf (ActStep.walk rfl rfl ?_)
  refine OpsL.appC (bytes := 8) (z := [.int .i64 0]) encN_len encN_one hof (lit_rows (enc := encN) (z := x) rfl hu7) xrf xrf xrf xrf xrf rfl (by simp; omega) (by omega) evd evd sdc ?_
  intro v8 σ8 hof8 x8
  replace hst := hst.keep x8 (by simp)
  replace hfi := hfi.keep x8 (by simp)
  replace hu16 := hu16.keep x8 (by simp)
  clear hof hu7
  refine OpsL.nil ⟨fun j _ => hK0 hst.old.ext (hst.a.cell rfl) (hst.a.cell rfl) j, ?_⟩
  refine zg4 ?_
  refine OpsQ.go1 17 [19, 20, 21] krf (ActStep.walk rfl rfl ?_)
  refine OpsL.appC (bytes := 1) (z := [.bool false]) encBo_len encBo_one hfi (lit_rows (enc := encBo) (z := y) rfl hu16) xrf xrf xrf xrf xrf rfl (by simp; omega) (by omega) evd evd sdc ?_
  intro v9 σ9 hfi9 x9
  replace hst := hst.keep x9 (by simp)
  replace hof8 := hof8.keep x9 (by simp)
  obtain ⟨wa, wk, rfl⟩ := OwnC.slice encN_len hof8
  obtain ⟨za, zk, rfl⟩ := OwnC.slice encBo_len hfi9
  refine OpsL.nil ⟨fun j hj => ⟨hst.old.ext, fun hj2 => absurd hj (by intro q; simp at q; omega)⟩, ?_⟩
  refine OpsQ.go1 19 [20, 21] krf (ActStep.walk rfl rfl ?_)
  refine OpsL.setC (k := 2) (v := .slice wa (D.of ++ [x]).length wk) (cs' := moC pl cl { V with o := .slice wa (D.of ++ [x]).length wk }) hst.a (by simp [moC]) rfl xrf rfl rfl evr evd rfl ?_
  intro τ1 hat1 xt1 _
  refine OpsL.nil ⟨fun j hj => ⟨(hst.old.keep xt1 (by simp)).ext, fun hj2 => absurd hj (by intro q; simp at q; omega)⟩, ?_⟩
  refine zg4 ?_
  refine OpsQ.go1 21 [] krf (ActStep.walk rfl rfl ?_)
  refine OpsL.setC (k := 4) (v := .slice za (D.final ++ [y]).length zk) (cs' := moC pl cl { V with o := .slice wa (D.of ++ [x]).length wk, f := .slice za (D.final ++ [y]).length zk }) hat1 (by simp [moC]) rfl xrf rfl rfl evr evd rfl ?_
  intro τ2 hat2 xt2 _
  have xx := xt1.trans xt2
  refine OpsL.nil ⟨fun k hk => absurd hk (by simp), ?_⟩
  refine OpsQ.nil ?_
  exact hQ _ τ2 { V with o := .slice wa (D.of ++ [x]).length wk, f := .slice za (D.final ++ [y]).length zk } stp stp stp stp stp stp stp ⟨hst.old.keep xx (by simp), hst.c.keep xx (by simp), hst.l.keep xx (by simp), hat2, hst.r.keep xx (by simp), hof8.keep xx (by simp), hst.en.keep xx (by simp), hfi9.keep xx (by simp), Row2.keepL xx (by simp) (fun _ _ => by simp) hst.inn, Row2.keepL xx (by simp) (fun _ _ => by simp) hst.low, Row3.keepL xx (by simp) (fun _ _ => by simp) (fun _ _ _ => by simp) hst.ret⟩
structure SmI (σ0 σ : CH) (cb O R : Nat) (pl cl : Int) (cls L : List Int) (lv : Value) (D : Mo) (V : MoV) : Prop where
 old : OldC σ0 σ
 c : ObC .tmp σ cb (.cells (cls.map (.int .i64 ·)) 1 none false (some 3))
 l : OwnC encN 3 .next σ lv L
 a : ObC .self σ O (mObj pl cl V)
 r : ObC .table σ R (.cells (moV noMo nilV) 0 none false (some 29))
 of : OwnC encN 3 .of σ V.o D.of
 en : OwnC encN 3 .entry σ V.e D.entry
 fi : OwnC encBo 4 .final σ V.f D.final
 low : Row2 .low1 .low σ V.l D.low
 ret : Row3 σ V.r D.ret
theorem SmI.loc {σ0 σ τ : CH} {cb O R : Nat} {pl cl : Int} {cls L : List Int} {lv : Value} {D : Mo} {V : MoV} (h : SmI σ0 σ cb O R pl cl cls L lv D V) (hc : Chg [] σ τ) (_hS : True) : SmI σ0 τ cb O R pl cl cls L lv D V :=
 ⟨h.old.keep hc (by simp), h.c.keep hc (by simp), h.l.keep hc (by simp), h.a.keep hc (by simp), h.r.keep hc (by simp), h.of.keep hc (by simp), h.en.keep hc (by simp), h.fi.keep hc (by simp), Row2.keepL hc (by simp) (fun _ _ => by simp) h.low, Row3.keepL hc (by simp) (fun _ _ => by simp) (fun _ _ _ => by simp) h.ret⟩
theorem SmI.cls {σ0 σ : CH} {cb O R : Nat} {pl cl : Int} {cls L : List Int} {lv : Value} {D : Mo} {V : MoV} {k : Nat} (h : SmI σ0 σ cb O R pl cl cls L lv D V) (hk : cls.length = k) : IntsAt σ.H (.slice (some ⟨cb, 0, none⟩) k k) cls := ofInts_at hk h.c
set_option maxRecDepth 20000 in
set_option maxHeartbeats 16000000 in
theorem smIn (W0 : World) {σ0 σ : CH} {nx cb O R c P n : Nat} {m : Mo} {V0 : MoV} {lv : Value} {pl cl : Int} {cls L : List Int} {D : Mo} {V : MoV} {tm : Nat → Value} (hn0 : n = 164) (hmod : ModOk m) (hl : cls.length = m.of.length) (ok0 : ∀ id o, σ0.H id = some o → id < σ0.nx) (hFA : ∀ {N : Nat} {H' : Heap}, Ext σ0.nx σ0.H N H' → MoBox H' nx m V0 ∧ MoIn H' m V0) (hP : P < m.of.length) (t1 : tm 1 = .pointer (some ⟨nx, 0, none⟩)) (t2 : tm 2 = .pointer (some ⟨R, 0, none⟩)) (t4 : tm 4 = .slice (some ⟨cb, 0, none⟩) m.of.length m.of.length) (t5 : tm 5 = lv) (t7 : tm 7 = .pointer (some ⟨O, 0, none⟩)) (t9 : tm 9 = .int .i64 (c : Nat)) (t10 : tm 10 = .int .i64 (P : Nat)) (h : SmS σ0 σ cb O R pl cl cls L lv D V) (hli : D.inn.length ≤ 1000) (hlw : D.low.length ≤ 1000) {Q : AExit → ASt → Prop} (hQ : ∀ tm' τ V', tm' 1 = .pointer (some ⟨nx, 0, none⟩) → tm' 2 = .pointer (some ⟨R, 0, none⟩) → tm' 4 = .slice (some ⟨cb, 0, none⟩) m.of.length m.of.length → tm' 5 = lv → tm' 7 = .pointer (some ⟨O, 0, none⟩) → tm' 9 = .int .i64 (c : Nat) → tm' 10 = .int .i64 (P : Nat) → SmS σ0 τ cb O R pl cl cls L lv { D with inn := D.inn ++ [pickL cls (m.inn.getD P [])], low := D.low ++ [pickL cls (m.low.getD P [])] } V' → Q .normal ⟨tm', n, τ.H, τ.nx⟩) : Trip Try.prog W0 (subC [1, 1, 1, 1, 1, 1, 1, 0, 1, 2, 2, 1, 0, 2, 1, 1, 0] (bodyMk Try.f9)) ⟨tm, n, σ.H, σ.nx⟩ Q := by
 obtain ⟨hb, hG⟩ := hFA (N := σ0.nx) (H' := σ0.H) Ext.refl
 have hst := hmod.st
 have hn60 := hmod.n.2
 obtain ⟨ia, ic, iv⟩ := hG.inn.slice
 have ih := hG.inn
 have g5 := hb.c5
 rw [iv] at ih g5
 obtain ⟨la, lc, lw⟩ := hG.low.slice
 have lh := hG.low
 have g6 := hb.c6
 rw [lw] at lh g6
 have hil := Nat.lt_of_lt_of_eq hP hmod.il.symm
 have hll := Nat.lt_of_lt_of_eq hP hmod.ll.symm
 obtain ⟨q1, rb1, rk1, rfl, hc1, hrow1⟩ := L2At.atI ih (show (0 : Int) ≤ P by omega) (show (P : Int) < m.inn.length by omega)
 obtain ⟨q2, rb2, rk2, rfl, hc2, hrow2⟩ := L2At.atI lh (show (0 : Int) ≤ P by omega) (show (P : Int) < m.low.length by omega)
 rw [Int.toNat_natCast] at hc1 hrow1 hc2 hrow2
 have hb1 : ∀ x ∈ m.inn.getD P [], 0 ≤ x ∧ x < (cls.length : Int) := fun x hx => by rw [hl]; exact hst.inn P x hx
 have hb2 : ∀ x ∈ m.low.getD P [], 0 ≤ x ∧ x < (cls.length : Int) := fun x hx => by rw [hl]; exact hst.low P x hx
 have hr1 : (m.inn.getD P []).length ≤ 1000 := by have := (hmod.inn P hP).1; have := hmod.pl; omega
 have hr2 : (m.low.getD P []).length ≤ 1000 := by
  by_cases hz : m.of.getD P 0 = 0
  ·have := (hmod.low0 _ hP hz).1; have := hmod.cl; omega
  ·rw [hmod.low1 _ hP hz]; simp
 obtain ⟨X, hX⟩ : ∃ X, m.inn.getD P [] = X := ⟨_, rfl⟩
 obtain ⟨Y, hY⟩ : ∃ Y, m.low.getD P [] = Y := ⟨_, rfl⟩
 rw [hX] at hc1 hrow1 hb1 hr1 hQ
 rw [hY] at hc2 hrow2 hb2 hr2 hQ
 have hPi : (P : Int) < m.inn.length := by omega
 have hPl : (P : Int) < m.low.length := by omega
 have ga : cellAt σ.H ⟨O, 5, none⟩ V.i := h.a.cell rfl
 have gl : cellAt σ.H ⟨O, 6, none⟩ V.l := h.a.cell rfl
 have hK0 : ∀ {N : Nat} {H : Heap}, Ext σ0.nx σ0.H N H → cellAt H ⟨O, 5, none⟩ V.i → cellAt H ⟨O, 6, none⟩ V.l → ∀ j : Nat, Ext σ0.nx σ0.H N H ∧ (j ≤ 21 → cellAt H ⟨O, 5, none⟩ V.i ∧ cellAt H ⟨O, 6, none⟩ V.l) := fun h1 h2 h3 j => ⟨h1, fun _ => ⟨h2, h3⟩⟩
 clear hX hY hst hil hll ih iv lh lw hb hG hFA
 refine OpsQ.drawn [8, 9, 10, 19, 20, 21, 23, 25] (K := fun j N H => Ext σ0.nx σ0.H N H ∧ (j ≤ 21 → cellAt H ⟨O, 5, none⟩ V.i ∧ cellAt H ⟨O, 6, none⟩ V.l)) mixed13 krf krf [0, 1, 2, 3, 4, 5, 6, 7, 11, 12, 13, 14, 15, 16, 17, 18, 8, 9, 10, 22, 19, 20, 21, 23, 24, 25] krf (fun j _ => hK0 h.old.ext ga gl j) ?_
 refine zg4 ?_
 refine OpsQ.sp 10 (v := V.i) rfl krf sdc (hK0 h.old.ext ga gl 10) (fun H2 nx2 hK => aop_load evr xrf rfl (hK.2 (by decide)).1) ?_
 refine zg48 ?_
 refine zg4 ?_
 refine OpsQ.sp 8 (v := .slice (some q1) m.inn.length ic) rfl krf sdc (hK0 h.old.ext ga gl 8) (fun H2 nx2 hK => aop_load evr xrf rfl (cell_ext hK.1 ok0 g5)) ?_
 refine zg114 ?_
 refine OpsQ.sp 8 (v := .slice rb1 X.length rk1) rfl krf sdc (hK0 h.old.ext ga gl 8) (fun H2 nx2 hK => aop_load evr xrf rfl (cell_ext hK.1 ok0 hc1)) ?_
 refine zg4 ?_
 refine OpsQ.sp 21 (v := V.l) rfl krf sdc (hK0 h.old.ext ga gl 21) (fun H2 nx2 hK => aop_load evr xrf rfl (hK.2 (by decide)).2) ?_
 refine zg48 ?_
 refine zg4 ?_
 refine OpsQ.sp 19 (v := .slice (some q2) m.low.length lc) rfl krf sdc (hK0 h.old.ext ga gl 19) (fun H2 nx2 hK => aop_load evr xrf rfl (cell_ext hK.1 ok0 g6)) ?_
 refine zg114 ?_
 refine OpsQ.sp 19 (v := .slice rb2 Y.length rk2) rfl krf sdc (hK0 h.old.ext ga gl 19) (fun H2 nx2 hK => aop_load evr xrf rfl (cell_ext hK.1 ok0 hc2)) ?_
 clear ga gl hc1 hc2 g5 g6
 refine zg16 ?_
 refine OpsL.c2 (hf := entersRefClasses2) (hc := (refClassesC2 W0 (h.cls hl) (hrow1.ext h.old.ext ok0) hb1 hr1 (by omega))) (h := ?_)
 rintro w1 N1 H1 ⟨ob, hown, hob, hxx⟩
 obtain ⟨σIa, rfl, rfl, xa, hca⟩ := Chg.ofExtC (.inn1 D.inn.length) hxx
 have hRI : RowI (.inn1 D.inn.length) σIa w1 (pickL cls X) := ⟨ob, hown, fun b t e => ⟨(hob b t e).2, hca _ (hob b t e).1⟩⟩
 clear hown hob hxx hca
 replace h := h.loc xa (by simp)
 obtain ⟨raI, rkI, rfl⟩ := OwnC.slice encN_len hRI
 refine OpsL.nil ⟨fun j hj => hK0 h.old.ext (h.a.cell rfl) (h.a.cell rfl) j, ?_⟩
 refine zg16 ?_
 refine OpsL.newC .tmp (aop_buildSlice (l := [(0, slV (raI, (pickL cls X).length, rkI))]) (r := (.slice (some ⟨σIa.nx, 0, none⟩) 1 1, .new (.cells [slV (raI, (pickL cls X).length, rkI)] 1 none false (some 22)))) (by simp [evParts, ASt.ev, tmPut, slV]) krf) sdc ?_
 intro σIb hu xb
 replace h := h.loc xb (by simp)
 replace hRI := RowI.keepL xb (by simp) hRI
 refine OpsL.nil ⟨fun j hj => hK0 h.old.ext (h.a.cell rfl) (h.a.cell rfl) j, ?_⟩
 refine zg16 ?_
 obtain ⟨vs, hvs, hall⟩ := h.inn
 refine OpsL.appC (bytes := 24) (z := [.slice none 0 0]) encS_len encS_one hvs (lit_rows (enc := encS) (z := (raI, (pickL cls X).length, rkI)) rfl hu) xrf xrf xrf xrf xrf rfl (by have := hall.1; simp; omega) (by omega) evd evd sdc ?_
 intro vI σIc hwI xc
 have hInew : Row2 .inn1 .inn σIc vI (D.inn ++ [pickL cls X]) := ⟨_, hwI, AllC.push (hall.keep fun jj _ _ _ hr => RowI.keepL xc (by simp) hr) (RowI.keepL xc (by simp) hRI)⟩
 have hSm : SmI σ0 σIc cb O R pl cl cls L lv D V := ⟨h.old.keep xc (by simp), h.c.keep xc (by simp), h.l.keep xc (by simp), h.a.keep xc (by simp), h.r.keep xc (by simp), h.of.keep xc (by simp), h.en.keep xc (by simp), h.fi.keep xc (by simp), Row2.keepL xc (by simp) (fun _ _ => by simp) h.low, Row3.keepL xc (by simp) (fun _ _ => by simp) (fun _ _ _ => by simp) h.ret⟩
 clear h hvs hall hu hwI xa xb xc hRI
 refine OpsL.nil ⟨fun j hj => hK0 hSm.old.ext (hSm.a.cell rfl) (hSm.a.cell rfl) j, ?_⟩
 refine zg110 ?_
 refine OpsL.c2 (hf := entersRefClasses2) (hc := (refClassesC2 W0 (hSm.cls hl) (hrow2.ext hSm.old.ext ok0) hb2 hr2 (by omega))) (h := ?_)
 rintro w1 N1 H1 ⟨ob, hown, hob, hxx⟩
 obtain ⟨σLa, rfl, rfl, xa, hca⟩ := Chg.ofExtC (.low1 D.low.length) hxx
 have hRL : RowI (.low1 D.low.length) σLa w1 (pickL cls Y) := ⟨ob, hown, fun b t e => ⟨(hob b t e).2, hca _ (hob b t e).1⟩⟩
 clear hown hob hxx hca
 replace hSm := hSm.loc xa (by simp)
 replace hInew := Row2.keepL xa (by simp) (fun _ _ => by simp) hInew
 obtain ⟨raL, rkL, rfl⟩ := OwnC.slice encN_len hRL
 refine OpsL.nil ⟨fun j hj => hK0 hSm.old.ext (hSm.a.cell rfl) (hSm.a.cell rfl) j, ?_⟩
 refine zg16 ?_
 refine OpsL.newC .tmp (aop_buildSlice (l := [(0, slV (raL, (pickL cls Y).length, rkL))]) (r := (.slice (some ⟨σLa.nx, 0, none⟩) 1 1, .new (.cells [slV (raL, (pickL cls Y).length, rkL)] 1 none false (some 22)))) (by simp [evParts, ASt.ev, tmPut, slV]) krf) sdc ?_
 intro σLb hu xb
 replace hSm := hSm.loc xb (by simp)
 replace hRL := RowI.keepL xb (by simp) hRL
 replace hInew := Row2.keepL xb (by simp) (fun _ _ => by simp) hInew
 refine OpsL.nil ⟨fun j hj => hK0 hSm.old.ext (hSm.a.cell rfl) (hSm.a.cell rfl) j, ?_⟩
 refine zg16 ?_
 obtain ⟨vs, hvs, hall⟩ := hSm.low
 refine OpsL.appC (bytes := 24) (z := [.slice none 0 0]) encS_len encS_one hvs (lit_rows (enc := encS) (z := (raL, (pickL cls Y).length, rkL)) rfl hu) xrf xrf xrf xrf xrf rfl (by have := hall.1; simp; omega) (by omega) evd evd sdc ?_
 intro vL σLc hwL xc
 have hLnew : Row2 .low1 .low σLc vL (D.low ++ [pickL cls Y]) := ⟨_, hwL, AllC.push (hall.keep fun jj _ _ _ hr => RowI.keepL xc (by simp) hr) (RowI.keepL xc (by simp) hRL)⟩
 replace hInew := Row2.keepL xc (by simp) (fun _ _ => by simp) hInew
 have ha := hSm.a.keep xc (by simp)
 obtain ⟨zi, hzi⟩ : ∃ z : SV, vI = slV z := by
  obtain ⟨vs, q1, q2⟩ := hInew
  obtain ⟨a, k, q3⟩ := OwnC.slice encS_len q1
  exact ⟨(a, vs.length, k), q3⟩
 obtain ⟨zl, hzl⟩ : ∃ z : SV, vL = slV z := by
  obtain ⟨vs, q1, q2⟩ := hLnew
  obtain ⟨a, k, q3⟩ := OwnC.slice encS_len q1
  exact ⟨(a, vs.length, k), q3⟩
 subst hzi hzl
 have ho' := hSm.old.keep xc (by simp)
 refine OpsL.nil ⟨fun j hj => ⟨ho'.ext, fun hj2 => absurd hj (by intro q; simp at q; omega)⟩, ?_⟩
 refine zg16 ?_
 refine OpsL.setC (k := 5) (v := slV zi) (cs' := moC pl cl { V with i := slV zi }) ha (by simp [moC]) rfl xrf rfl rfl evr evd rfl ?_
 intro τ1 hat1 xt1 _
 refine OpsL.nil ⟨fun j hj => ⟨(ho'.keep xt1 (by simp)).ext, fun hj2 => absurd hj (by intro q; simp at q; omega)⟩, ?_⟩
 refine zg110 ?_
 refine OpsL.setC (k := 6) (v := slV zl) (cs' := moC pl cl { V with i := slV zi, l := slV zl }) hat1 (by simp [moC]) rfl xrf rfl rfl evr evd rfl ?_
 intro τ2 hat2 xt2 _
 have xx := (xc.trans2 (U := [.low, .self]) (xt1.trans xt2) (fun c hc => by simp at hc; simp [hc]) (fun c hc => by simp at hc; simp [hc]))
 have xy := xt1.trans xt2
 refine OpsL.nil ⟨fun k hk => absurd hk (by simp), ?_⟩
 refine OpsQ.nil ?_
 exact hQ _ τ2 { V with i := slV zi, l := slV zl } stp stp stp stp stp stp stp ⟨hSm.old.keep xx (by simp), hSm.c.keep xx (by simp), hSm.l.keep xx (by simp), hat2, hSm.r.keep xx (by simp), hSm.of.keep xx (by simp), hSm.en.keep xx (by simp), hSm.fi.keep xx (by simp), Row2.keepL xy (by simp) (fun _ _ => by simp) hInew, Row2.keepL xy (by simp) (fun _ _ => by simp) hLnew, Row3.keepL xx (by simp) (fun _ _ => by simp) (fun _ _ _ => by simp) hSm.ret⟩
end Go.Proofs.Ytjgbcpagfghfnaa

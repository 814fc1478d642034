/-
  A table over trees: lead, add, Put, Find.
-/
import Derived.Test.YtigincejpjajpaaFind2b
namespace Go.Proofs.Ytigincejpjajpaa
set_option linter.unusedSimpArgs false
set_option linter.unusedVariables false
set_option maxRecDepth 20000
open Go.RowKit Go.Am

section
variable {P : Program} {W0 : World} {ops : Array Oper} {acts : List Nat} {K : Nat → Heap → Prop}
/-- One that acts, walked as ever. -/
theorem ActStep.ofL {i : Nat} {o : Oper} {st : ASt} {N : ASt → Prop} (ho : ops[i]? = some o) (he : acts.contains i = true) (h : OpsL P W0 ops [o] st fun s => K s.nx s.H ∧ N s) : ActStep P W0 ops acts K i st N := by
  obtain ⟨hd, h⟩ := h
  refine ⟨o, ho, hd, he, ?_⟩
  rcases h with ⟨hw, h⟩ | ⟨hw, ⟨v, e, hop, h⟩ | ⟨f, args, R, hc, hf, hcall, h⟩⟩
  · exact .inl ⟨hw, h.2⟩
  · exact .inr ⟨hw, .inl ⟨v, e, hop, h.1, h.2⟩⟩
  · exact .inr ⟨hw, .inr ⟨f, args, R, hc, hf, hcall, fun v nx' H' hr => h v nx' H' hr⟩⟩

theorem Trip.seq3 {a c d : Code} {st : ASt} {Q : AExit → ASt → Prop} (I : ASt → Prop) (h1 : Trip P W0 a st fun e s => e = .normal ∧ Trip P W0 c s fun e s => e = .normal ∧ I s) (h2 : ∀ s, I s → Trip P W0 d s Q) : Trip P W0 (.seq a (.seq c d)) st Q := by
  refine Trip.seq (Trip.mono h1 ?_)
  rintro e s ⟨rfl, h⟩
  refine Trip.seq (Trip.mono h ?_)
  rintro e s ⟨rfl, h⟩
  exact h2 s h
end
attribute [local irreducible] aop OpsL Trip blockExit OpsD OpsK OpsR

theorem aSlice_blk {P : Program} {H H' : Heap} {t : TypeId} {a : Option Addr} {n c : Nat} {lo hi mx : Option Value} (h : ∀ p, a = some p → H' p.block = H p.block) : aSlice P H' t (.slice a n c) lo hi mx = aSlice P H t (.slice a n c) lo hi mx := by
  cases a with
  | none =>
    unfold aSlice
    cases P.underlying t with
    | none => rfl
    | some d => cases d <;> rfl
  | some p =>
    unfold aSlice
    cases P.underlying t with
    | none => rfl
    | some d => cases d <;> first | rfl | simp only [h p rfl]

theorem entersLead : Am.Enters Try.prog 55 := ⟨Try.f55, Try.func55, by kernel_rfl, by kernel_rfl⟩
theorem entersAdd : Am.Enters Try.prog 45 := ⟨Try.f45, Try.func45, by kernel_rfl, by kernel_rfl⟩
theorem entersPut : Am.Enters Try.prog 31 := ⟨Try.f31, Try.func31, by kernel_rfl, by kernel_rfl⟩
theorem entersFindP : Am.Enters Try.prog 33 := ⟨Try.f33, Try.func33, by kernel_rfl, by kernel_rfl⟩

theorem OpsK.call3 {P : Program} {W0 : World} {ops : Array Oper} {K : Nat → Heap → Prop} {k : Nat} {type : TypeId} {pos : String} {after : Array Edge} {l : List Oper} {tm : Nat → Value} {n nx nx' : Nat} {H H' : Heap} {v : Value} {QQ : ASt → Prop} {f : FuncId} {d : Tmp} {ts : Array TypeId} {c x y z : Operand} {a b e : Value} (hd : d < n) (hf' : ASt.ev ⟨tm, n, H, nx⟩ c = some (.func (.func f) #[] #[])) (hx : ASt.ev ⟨tm, n, H, nx⟩ x = some a) (hy : ASt.ev ⟨tm, n, H, nx⟩ y = some b) (hz : ASt.ev ⟨tm, n, H, nx⟩ z = some e) (hf : Am.Enters P f) (hcall : ACalls P W0 f [a, b, e] nx H (fun v1 n1 H1 => v1 = v ∧ n1 = nx' ∧ H1 = H')) (he : K nx' H') (h : OpsK P W0 ops K (k + 1) l ⟨tmPut tm (some d) v, n, H', nx'⟩ QQ) :
    OpsK P W0 ops K k (⟨some d, .call ⟨.value c, #[x, y, z], ts⟩, type, pos, after, none⟩ :: l) ⟨tm, n, H, nx⟩ QQ :=
  OpsK.call (by simp [dstOk, hd]) rfl (by simp [callee, hf', evAll, hx, hy, hz]) hf hcall he h

set_option maxHeartbeats 4000000 in
/-- What lead tells, and leaves: told whole. -/
theorem leadD (W0 : World) {nx b m : Nat} {H : Heap} {a : Int} {fv rv : Value} {c : List (Int × Int)} {M : Links} (hok : ∀ id o, H id = some o → id < nx) (hb : H b = some (.cells [rv, .map (some m)] 0 none false (some 61))) (hbm : b ≠ m) (hmx : m < nx) (hl : LinksAt H (.map (some m)) M) (hf : PairsAt H fv c) (hc : c.length = 7) (hM : M.length ≤ 1000000000) :
    ∃ (y : Int) (M' : Links) (H2 : Heap), (∀ i, i < nx → i ≠ m → H2 i = H i) ∧ LinksAt H2 (.map (some m)) M' ∧ ((look M (linkF a c) = some y ∧ M' = M) ∨ (look M (linkF a c) = none ∧ y = (M.length : Int) + 1 ∧ M' = M ++ [(linkF a c, (M.length : Int) + 1)])) ∧ (∀ id o, H2 id = some o → id < nx + 3) ∧
      ACalls Try.prog W0 55 [tabV b, .int .i64 a, fv] nx H fun v nx' H' => v = .int .i64 y ∧ nx' = nx + 3 ∧ H' = H2 := by
  have hbx : b < nx := hok _ _ hb
  have hl8 := linkF_len (a := a) (p := c) (by omega)
  have hone : ((linkF a c).flatMap encP).all (·.oneCell') = true := by
    rw [List.all_eq_true]
    intro v hv
    obtain ⟨x, _, hx⟩ := List.mem_flatMap.1 hv
    exact List.all_eq_true.1 (encP_one x) v hx
  have hl16 : ((linkF a c).flatMap encP).length = 16 := by rw [flat_len encP_len, hl8]
  obtain ⟨G, hG⟩ : ∃ G, G = (((linkG nx H a c).put (nx + 2) (.cells (zs 16) 0 none false (some 72))).put (nx + 2) (.cells ((linkF a c).flatMap encP) 0 none false (some 72))) := ⟨_, rfl⟩
  have hxG : Ext nx H (nx + 2 + 1) G := by rw [hG]; exact (linkG_ext.trans Ext.newPut).put (by omega)
  have hokG : ∀ id o, G id = some o → id < nx + 3 := fun id o ho => by
    by_cases hid : id < nx + 3
    · exact hid
    · exfalso
      rw [hG, Heap.put_ne (by omega), Heap.put_ne (by omega)] at ho
      unfold linkG at ho
      rw [Heap.put_ne (by omega), Heap.put_ne (by omega), Heap.put_ne (by omega), Heap.put_ne (by omega), Heap.put_ne (by omega)] at ho
      have := hok id o ho
      omega
  have gk : getc G ⟨nx + 2, 0, none⟩ 16 = some ((linkF a c).flatMap encP) := by
    rw [hG, getc_own (by rw [hl16]; exact Nat.le_refl 16), List.drop_zero, List.take_of_length_le (by rw [hl16]; exact Nat.le_refl 16)]
  have hbG : G b = some (.cells [rv, .map (some m)] 0 none false (some 61)) := (hxG.2 b hbx).trans hb
  have hlG : LinksAt G (.map (some m)) M := hl.same fun m' e => by cases e; exact hxG.2 m hmx
  have c1 : cellAt G ⟨b, 0 + 1, none⟩ (.map (some m)) := cellAt_own (off := 1) hbG (by show 1 < 2; decide)
  have hlook := LinksAt.told hlG hl8
  have kG : Keep (G = (((linkG nx H a c).put (nx + 2) (.cells (zs 16) 0 none false (some 72))).put (nx + 2) (.cells ((linkF a c).flatMap encP) 0 none false (some 72)))) := hG
  clear hG
  cases hlk : look M (linkF a c) with
  | some y =>
    rw [hlk] at hlook
    refine ⟨y, M, G, fun i hi _ => hxG.2 i hi, hlG, .inl ⟨rfl, rfl⟩, hokG, ?_⟩
    refine ACalls.by_trip (fn := Try.f55) (c := _) Try.func55 rfl (fun tm n hn0 htm => ?_)
    have e0 : tm 0 = tabV b := htm 0
    have e1 : tm 1 = .int .i64 a := htm 1
    have e2 : tm 2 = fv := htm 2
    clear htm
    replace hn0 : n = 37 := hn0
    repeat (first | (refine OpsL.p (by subst_vars; decide) (by (first | (exact aop_move (by (first | (simp only [ASt.ev, tmPut, ↓reduceIte, reduceIte, Nat.reduceEqDiff, plain1, *]; rfl) | fail))) | (exact aop_assign (by (first | (simp only [ASt.ev, tmPut, ↓reduceIte, reduceIte, Nat.reduceEqDiff, plain1, *]; rfl) | fail))) | fail)) ?_) | (refine Trip.seq ?_) | (refine Trip.ops ?_) | (refine OpsL.nil ?_; ((repeat (first | refine blockExit_eq ?_ | refine blockExit_ne (by decide) ?_ | refine blockExit_normal ?_ | refine blockExit_ret ?_ | refine blockExit_goto ?_)); first | (change Trip _ _ _ _ _) | dsimp only | skip)) | fail)
    refine OpsL.call2 (by subst_vars; decide) (by (first | (simp only [ASt.ev, tmPut, ↓reduceIte, reduceIte, Nat.reduceEqDiff, plain1, *]; rfl) | fail)) (by (first | (simp only [ASt.ev, tmPut, ↓reduceIte, reduceIte, Nat.reduceEqDiff, plain1, *]; done) | fail)) entersLink (linkD W0 hf (by omega)) ?_
    rintro v1 nx1 H1 ⟨rfl, rfl, rfl⟩
    refine OpsL.new (by subst_vars; decide) (aop_alloc (l := zs 16) (by kernel_rfl)) ?_
    refine OpsL.upd (aop_store (k := 16) (u := keyV (linkF a c)) (o := .cells ((linkF a c).flatMap encP) 0 none false (some 72)) (by (first | (simp only [ASt.ev, tmPut, ↓reduceIte, reduceIte, Nat.reduceEqDiff, plain1, *]; done) | fail)) (by (first | (simp only [ASt.ev, tmPut, ↓reduceIte, reduceIte, Nat.reduceEqDiff, plain1, *]; done) | fail)) (by exact rfl) hl16 (setc_all (c := zs 16) Heap.put_eq (by show ((linkF a c).flatMap encP).length = 16; exact hl16) hone)) ?_
    show OpsL _ _ _ _ ⟨_, _, (((linkG nx H a c).put (nx + 2) (.cells (zs 16) 0 none false (some 72))).put (nx + 2) (.cells ((linkF a c).flatMap encP) 0 none false (some 72))), _⟩ _
    have hG := kG
    unfold Keep at hG
    rw [← hG]
    clear hG
    repeat (first | (refine Trip.seq ?_) | (refine OpsL.nil ?_; ((repeat (first | refine blockExit_eq ?_ | refine blockExit_ne (by decide) ?_ | refine blockExit_normal ?_ | refine blockExit_ret ?_ | refine blockExit_goto ?_)); first | (change Trip _ _ _ _ _) | dsimp only | skip)) | fail)
    refine Trip.mono (Q := fun e st => e = .normal ∧ ∃ (tm' : Nat → Value), st = ⟨tm', n, G, nx + 2 + 1⟩ ∧ tm' 8 = .int .i64 y ∧ tm' 9 = .bool true) ?_ ?_
    · refine OpsK.drawn (K := fun _ _ => True) mixedP (by kernel_rfl) (by kernel_rfl) trivial ?_
      refine OpsK.one rfl (by kernel_rfl) ?_
      repeat (first | (refine OpsL.p (by subst_vars; decide) (by (first | (exact aop_move (by (first | (simp only [ASt.ev, tmPut, ↓reduceIte, reduceIte, Nat.reduceEqDiff, plain1, *]; rfl) | fail))) | fail)) ?_) | (refine OpsL.nil ?_; ((repeat (first | refine blockExit_eq ?_ | refine blockExit_ne (by decide) ?_ | refine blockExit_normal ?_ | refine blockExit_ret ?_ | refine blockExit_goto ?_)); first | (change Trip _ _ _ _ _) | dsimp only | skip)) | fail)
      refine OpsK.one rfl (by kernel_rfl) ?_
      repeat (first | (refine OpsL.p (by subst_vars; decide) (by (first | (exact aop_nilCheck (by (first | (simp only [ASt.ev, tmPut, ↓reduceIte, reduceIte, Nat.reduceEqDiff, plain1, *]; rfl) | fail))) | fail)) ?_) | (refine OpsL.nil ?_; ((repeat (first | refine blockExit_eq ?_ | refine blockExit_ne (by decide) ?_ | refine blockExit_normal ?_ | refine blockExit_ret ?_ | refine blockExit_goto ?_)); first | (change Trip _ _ _ _ _) | dsimp only | skip)) | fail)
      refine OpsK.one rfl (by kernel_rfl) ?_
      repeat (first | (refine OpsL.p (by subst_vars; decide) (by (first | (exact aop_fieldAddr (by (first | (simp only [ASt.ev, tmPut, ↓reduceIte, reduceIte, Nat.reduceEqDiff, plain1, *]; rfl) | fail)) (by exact rfl)) | fail)) ?_) | (refine OpsL.nil ?_; ((repeat (first | refine blockExit_eq ?_ | refine blockExit_ne (by decide) ?_ | refine blockExit_normal ?_ | refine blockExit_ret ?_ | refine blockExit_goto ?_)); first | (change Trip _ _ _ _ _) | dsimp only | skip)) | fail)
      refine OpsK.one rfl (by kernel_rfl) ?_
      repeat (first | (refine OpsL.p (by subst_vars; decide) (by (first | (exact aop_load (by (first | (simp only [ASt.ev, tmPut, ↓reduceIte, reduceIte, Nat.reduceEqDiff, plain1, *]; rfl) | fail)) (by exact rfl) rfl (by assumption)) | fail)) ?_) | (refine OpsL.nil ?_; ((repeat (first | refine blockExit_eq ?_ | refine blockExit_ne (by decide) ?_ | refine blockExit_normal ?_ | refine blockExit_ret ?_ | refine blockExit_goto ?_)); first | (change Trip _ _ _ _ _) | dsimp only | skip)) | fail)
      refine OpsK.one rfl (by kernel_rfl) ?_
      refine OpsL.p (by subst_vars; decide) (aop_loadAgg (k := 16) (vs := (linkF a c).flatMap encP) (by (first | (simp only [ASt.ev, tmPut, ↓reduceIte, reduceIte, Nat.reduceEqDiff, plain1, *]; done) | fail)) (by exact rfl) rfl (by exact rfl) gk) ?_
      repeat (first | (refine OpsL.nil ?_; ((repeat (first | refine blockExit_eq ?_ | refine blockExit_ne (by decide) ?_ | refine blockExit_normal ?_ | refine blockExit_ret ?_ | refine blockExit_goto ?_)); first | (change Trip _ _ _ _ _) | dsimp only | skip)) | fail)
      refine OpsK.one rfl (by kernel_rfl) ?_
      refine OpsL.p (by subst_vars; decide) (aop_lookup (by (first | (simp only [ASt.ev, tmPut, ↓reduceIte, reduceIte, Nat.reduceEqDiff, plain1, *]; done) | fail)) (by (first | (simp only [ASt.ev, tmPut, ↓reduceIte, reduceIte, Nat.reduceEqDiff, plain1, *]; rfl) | fail)) hlook) ?_
      repeat (first | (refine OpsL.nil ?_; ((repeat (first | refine blockExit_eq ?_ | refine blockExit_ne (by decide) ?_ | refine blockExit_normal ?_ | refine blockExit_ret ?_ | refine blockExit_goto ?_)); first | (change Trip _ _ _ _ _) | dsimp only | skip)) | fail)
      refine OpsK.one rfl (by kernel_rfl) ?_
      repeat (first | (refine OpsL.p (by subst_vars; decide) (by (first | (exact aop_move (by (first | (simp only [ASt.ev, tmPut, ↓reduceIte, reduceIte, Nat.reduceEqDiff, plain1, *]; rfl) | fail))) | fail)) ?_) | (refine OpsL.nil ?_; ((repeat (first | refine blockExit_eq ?_ | refine blockExit_ne (by decide) ?_ | refine blockExit_normal ?_ | refine blockExit_ret ?_ | refine blockExit_goto ?_)); first | (change Trip _ _ _ _ _) | dsimp only | skip)) | fail)
      refine OpsK.one rfl (by kernel_rfl) ?_
      repeat (first | (refine OpsL.p (by subst_vars; decide) (by (first | (exact aop_extract (by (first | (simp only [ASt.ev, tmPut, ↓reduceIte, reduceIte, Nat.reduceEqDiff, plain1, *]; rfl) | fail)) (by exact rfl)) | fail)) ?_) | (refine OpsL.nil ?_; ((repeat (first | refine blockExit_eq ?_ | refine blockExit_ne (by decide) ?_ | refine blockExit_normal ?_ | refine blockExit_ret ?_ | refine blockExit_goto ?_)); first | (change Trip _ _ _ _ _) | dsimp only | skip)) | fail)
      refine OpsK.one rfl (by kernel_rfl) ?_
      repeat (first | (refine OpsL.p (by subst_vars; decide) (by (first | (exact aop_extract (by (first | (simp only [ASt.ev, tmPut, ↓reduceIte, reduceIte, Nat.reduceEqDiff, plain1, *]; rfl) | fail)) (by exact rfl)) | fail)) ?_) | (refine OpsL.nil ?_; ((repeat (first | refine blockExit_eq ?_ | refine blockExit_ne (by decide) ?_ | refine blockExit_normal ?_ | refine blockExit_ret ?_ | refine blockExit_goto ?_)); first | (change Trip _ _ _ _ _) | dsimp only | skip)) | fail)
      refine OpsK.one rfl (by kernel_rfl) ?_
      repeat (first | (refine OpsL.p (by subst_vars; decide) (by (first | (exact aop_assign (by (first | (simp only [ASt.ev, tmPut, ↓reduceIte, reduceIte, Nat.reduceEqDiff, plain1, *]; rfl) | fail))) | fail)) ?_) | (refine OpsL.nil ?_; ((repeat (first | refine blockExit_eq ?_ | refine blockExit_ne (by decide) ?_ | refine blockExit_normal ?_ | refine blockExit_ret ?_ | refine blockExit_goto ?_)); first | (change Trip _ _ _ _ _) | dsimp only | skip)) | fail)
      refine OpsK.one rfl (by kernel_rfl) ?_
      repeat (first | (refine OpsL.p (by subst_vars; decide) (by (first | (exact aop_assign (by (first | (simp only [ASt.ev, tmPut, ↓reduceIte, reduceIte, Nat.reduceEqDiff, plain1, *]; rfl) | fail))) | fail)) ?_) | (refine OpsL.nil ?_; ((repeat (first | refine blockExit_eq ?_ | refine blockExit_ne (by decide) ?_ | refine blockExit_normal ?_ | refine blockExit_ret ?_ | refine blockExit_goto ?_)); first | (change Trip _ _ _ _ _) | dsimp only | skip)) | fail)
      refine OpsK.nil ?_
      exact ⟨rfl, _, rfl, by simp [tmPut], by simp [tmPut]⟩
    · clear e0 e1 e2
      rintro e st ⟨rfl, tm', rfl, e8, e9⟩
      ((repeat (first | refine blockExit_eq ?_ | refine blockExit_ne (by decide) ?_ | refine blockExit_normal ?_ | refine blockExit_ret ?_ | refine blockExit_goto ?_)); first | (change Trip _ _ _ _ _) | dsimp only | skip)
      repeat (first | (refine OpsL.p (by subst_vars; decide) (by (first | (exact aop_move (by (first | (simp only [ASt.ev, tmPut, ↓reduceIte, reduceIte, Nat.reduceEqDiff, plain1, *]; rfl) | fail))) | (exact aop_not (by (first | (simp only [ASt.ev, tmPut, ↓reduceIte, reduceIte, Nat.reduceEqDiff, plain1, *]; rfl) | fail))) | fail)) ?_) | (refine Trip.seq ?_) | (refine Trip.ops ?_) | (refine OpsL.nil ?_; ((repeat (first | refine blockExit_eq ?_ | refine blockExit_ne (by decide) ?_ | refine blockExit_normal ?_ | refine blockExit_ret ?_ | refine blockExit_goto ?_)); first | (change Trip _ _ _ _ _) | dsimp only | skip)) | fail)
      refine Trip.iteB (b := false) (by (first | (simp only [ASt.ev, tmPut, ↓reduceIte, reduceIte, Nat.reduceEqDiff, decide_true, decide_false, not_true_eq_false, not_false_eq_true, Bool.not_true, Bool.not_false, *]; done) | fail)) (fun h => absurd h (by decide)) (fun _ => ?_)
      repeat (first | (refine OpsL.p (by subst_vars; decide) (by (first | (exact aop_move (by (first | (simp only [ASt.ev, tmPut, ↓reduceIte, reduceIte, Nat.reduceEqDiff, plain1, *]; rfl) | fail))) | (exact aop_assign (by (first | (simp only [ASt.ev, tmPut, ↓reduceIte, reduceIte, Nat.reduceEqDiff, plain1, *]; rfl) | fail))) | fail)) ?_) | (refine Trip.seq ?_) | (refine Trip.ops ?_) | (refine Trip.skip ?_; ((repeat (first | refine blockExit_eq ?_ | refine blockExit_ne (by decide) ?_ | refine blockExit_normal ?_ | refine blockExit_ret ?_ | refine blockExit_goto ?_)); first | (change Trip _ _ _ _ _) | dsimp only | skip)) | (refine Trip.ret ?_; ((repeat (first | refine blockExit_eq ?_ | refine blockExit_ne (by decide) ?_ | refine blockExit_normal ?_ | refine blockExit_ret ?_ | refine blockExit_goto ?_)); first | (change Trip _ _ _ _ _) | dsimp only | skip)) | (refine OpsL.nil ?_; ((repeat (first | refine blockExit_eq ?_ | refine blockExit_ne (by decide) ?_ | refine blockExit_normal ?_ | refine blockExit_ret ?_ | refine blockExit_goto ?_)); first | (change Trip _ _ _ _ _) | dsimp only | skip)) | fail)
      exact ⟨.inr rfl, _, res_tmp, by simp [tmPut, *], rfl, rfl⟩
  | none =>
    rw [hlk] at hlook
    obtain ⟨h8, hor⟩ := hlG
    obtain ⟨bs, clk, hm⟩ : ∃ bs clk, G m = some (.map (M.map encE) bs clk) := by
      rcases hor with ⟨h, _⟩ | ⟨m', bs, clk, h, hm⟩
      · cases h
      · cases h; exact ⟨bs, clk, hm⟩
    have hMl : (M.map encE).length = M.length := List.length_map _
    refine ⟨(M.length : Int) + 1, M ++ [(linkF a c, (M.length : Int) + 1)], G.put m (.map ((M ++ [(linkF a c, (M.length : Int) + 1)]).map encE) (bs ++ [clk]) (clk + 1)), fun i hi hne => by rw [Heap.put_ne hne]; exact hxG.2 i hi, ⟨fun e he => ?_, .inr ⟨m, _, _, rfl, Heap.put_eq⟩⟩, .inr ⟨rfl, rfl, rfl⟩, fun id o ho => ?_, ?_⟩
    · rcases List.mem_append.1 he with h | h
      · exact h8 e h
      · rw [List.mem_singleton] at h
        subst h
        exact hl8
    · by_cases him : id = m
      · omega
      · rw [Heap.put_ne him] at ho
        exact hokG id o ho
    refine ACalls.by_trip (fn := Try.f55) (c := _) Try.func55 rfl (fun tm n hn0 htm => ?_)
    have e0 : tm 0 = tabV b := htm 0
    have e1 : tm 1 = .int .i64 a := htm 1
    have e2 : tm 2 = fv := htm 2
    clear htm
    replace hn0 : n = 37 := hn0
    repeat (first | (refine OpsL.p (by subst_vars; decide) (by (first | (exact aop_move (by (first | (simp only [ASt.ev, tmPut, ↓reduceIte, reduceIte, Nat.reduceEqDiff, plain1, *]; rfl) | fail))) | (exact aop_assign (by (first | (simp only [ASt.ev, tmPut, ↓reduceIte, reduceIte, Nat.reduceEqDiff, plain1, *]; rfl) | fail))) | fail)) ?_) | (refine Trip.seq ?_) | (refine Trip.ops ?_) | (refine OpsL.nil ?_; ((repeat (first | refine blockExit_eq ?_ | refine blockExit_ne (by decide) ?_ | refine blockExit_normal ?_ | refine blockExit_ret ?_ | refine blockExit_goto ?_)); first | (change Trip _ _ _ _ _) | dsimp only | skip)) | fail)
    refine OpsL.call2 (by subst_vars; decide) (by (first | (simp only [ASt.ev, tmPut, ↓reduceIte, reduceIte, Nat.reduceEqDiff, plain1, *]; rfl) | fail)) (by (first | (simp only [ASt.ev, tmPut, ↓reduceIte, reduceIte, Nat.reduceEqDiff, plain1, *]; done) | fail)) entersLink (linkD W0 hf (by omega)) ?_
    rintro v1 nx1 H1 ⟨rfl, rfl, rfl⟩
    refine OpsL.new (by subst_vars; decide) (aop_alloc (l := zs 16) (by kernel_rfl)) ?_
    refine OpsL.upd (aop_store (k := 16) (u := keyV (linkF a c)) (o := .cells ((linkF a c).flatMap encP) 0 none false (some 72)) (by (first | (simp only [ASt.ev, tmPut, ↓reduceIte, reduceIte, Nat.reduceEqDiff, plain1, *]; done) | fail)) (by (first | (simp only [ASt.ev, tmPut, ↓reduceIte, reduceIte, Nat.reduceEqDiff, plain1, *]; done) | fail)) (by exact rfl) hl16 (setc_all (c := zs 16) Heap.put_eq (by show ((linkF a c).flatMap encP).length = 16; exact hl16) hone)) ?_
    show OpsL _ _ _ _ ⟨_, _, (((linkG nx H a c).put (nx + 2) (.cells (zs 16) 0 none false (some 72))).put (nx + 2) (.cells ((linkF a c).flatMap encP) 0 none false (some 72))), _⟩ _
    have hG := kG
    unfold Keep at hG
    rw [← hG]
    clear hG
    repeat (first | (refine Trip.seq ?_) | (refine OpsL.nil ?_; ((repeat (first | refine blockExit_eq ?_ | refine blockExit_ne (by decide) ?_ | refine blockExit_normal ?_ | refine blockExit_ret ?_ | refine blockExit_goto ?_)); first | (change Trip _ _ _ _ _) | dsimp only | skip)) | fail)
    refine Trip.mono (Q := fun e st => e = .normal ∧ ∃ (tm' : Nat → Value), st = ⟨tm', n, G, nx + 2 + 1⟩ ∧ tm' 0 = tabV b ∧ tm' 7 = .pointer (some ⟨nx + 2, 0, none⟩) ∧ tm' 9 = .bool false) ?_ ?_
    · refine OpsK.drawn (K := fun _ _ => True) mixedP (by kernel_rfl) (by kernel_rfl) trivial ?_
      refine OpsK.one rfl (by kernel_rfl) ?_
      repeat (first | (refine OpsL.p (by subst_vars; decide) (by (first | (exact aop_move (by (first | (simp only [ASt.ev, tmPut, ↓reduceIte, reduceIte, Nat.reduceEqDiff, plain1, *]; rfl) | fail))) | fail)) ?_) | (refine OpsL.nil ?_; ((repeat (first | refine blockExit_eq ?_ | refine blockExit_ne (by decide) ?_ | refine blockExit_normal ?_ | refine blockExit_ret ?_ | refine blockExit_goto ?_)); first | (change Trip _ _ _ _ _) | dsimp only | skip)) | fail)
      refine OpsK.one rfl (by kernel_rfl) ?_
      repeat (first | (refine OpsL.p (by subst_vars; decide) (by (first | (exact aop_nilCheck (by (first | (simp only [ASt.ev, tmPut, ↓reduceIte, reduceIte, Nat.reduceEqDiff, plain1, *]; rfl) | fail))) | fail)) ?_) | (refine OpsL.nil ?_; ((repeat (first | refine blockExit_eq ?_ | refine blockExit_ne (by decide) ?_ | refine blockExit_normal ?_ | refine blockExit_ret ?_ | refine blockExit_goto ?_)); first | (change Trip _ _ _ _ _) | dsimp only | skip)) | fail)
      refine OpsK.one rfl (by kernel_rfl) ?_
      repeat (first | (refine OpsL.p (by subst_vars; decide) (by (first | (exact aop_fieldAddr (by (first | (simp only [ASt.ev, tmPut, ↓reduceIte, reduceIte, Nat.reduceEqDiff, plain1, *]; rfl) | fail)) (by exact rfl)) | fail)) ?_) | (refine OpsL.nil ?_; ((repeat (first | refine blockExit_eq ?_ | refine blockExit_ne (by decide) ?_ | refine blockExit_normal ?_ | refine blockExit_ret ?_ | refine blockExit_goto ?_)); first | (change Trip _ _ _ _ _) | dsimp only | skip)) | fail)
      refine OpsK.one rfl (by kernel_rfl) ?_
      repeat (first | (refine OpsL.p (by subst_vars; decide) (by (first | (exact aop_load (by (first | (simp only [ASt.ev, tmPut, ↓reduceIte, reduceIte, Nat.reduceEqDiff, plain1, *]; rfl) | fail)) (by exact rfl) rfl (by assumption)) | fail)) ?_) | (refine OpsL.nil ?_; ((repeat (first | refine blockExit_eq ?_ | refine blockExit_ne (by decide) ?_ | refine blockExit_normal ?_ | refine blockExit_ret ?_ | refine blockExit_goto ?_)); first | (change Trip _ _ _ _ _) | dsimp only | skip)) | fail)
      refine OpsK.one rfl (by kernel_rfl) ?_
      refine OpsL.p (by subst_vars; decide) (aop_loadAgg (k := 16) (vs := (linkF a c).flatMap encP) (by (first | (simp only [ASt.ev, tmPut, ↓reduceIte, reduceIte, Nat.reduceEqDiff, plain1, *]; done) | fail)) (by exact rfl) rfl (by exact rfl) gk) ?_
      repeat (first | (refine OpsL.nil ?_; ((repeat (first | refine blockExit_eq ?_ | refine blockExit_ne (by decide) ?_ | refine blockExit_normal ?_ | refine blockExit_ret ?_ | refine blockExit_goto ?_)); first | (change Trip _ _ _ _ _) | dsimp only | skip)) | fail)
      refine OpsK.one rfl (by kernel_rfl) ?_
      refine OpsL.p (by subst_vars; decide) (aop_lookup (by (first | (simp only [ASt.ev, tmPut, ↓reduceIte, reduceIte, Nat.reduceEqDiff, plain1, *]; done) | fail)) (by (first | (simp only [ASt.ev, tmPut, ↓reduceIte, reduceIte, Nat.reduceEqDiff, plain1, *]; rfl) | fail)) hlook) ?_
      repeat (first | (refine OpsL.nil ?_; ((repeat (first | refine blockExit_eq ?_ | refine blockExit_ne (by decide) ?_ | refine blockExit_normal ?_ | refine blockExit_ret ?_ | refine blockExit_goto ?_)); first | (change Trip _ _ _ _ _) | dsimp only | skip)) | fail)
      refine OpsK.one rfl (by kernel_rfl) ?_
      repeat (first | (refine OpsL.p (by subst_vars; decide) (by (first | (exact aop_move (by (first | (simp only [ASt.ev, tmPut, ↓reduceIte, reduceIte, Nat.reduceEqDiff, plain1, *]; rfl) | fail))) | fail)) ?_) | (refine OpsL.nil ?_; ((repeat (first | refine blockExit_eq ?_ | refine blockExit_ne (by decide) ?_ | refine blockExit_normal ?_ | refine blockExit_ret ?_ | refine blockExit_goto ?_)); first | (change Trip _ _ _ _ _) | dsimp only | skip)) | fail)
      refine OpsK.one rfl (by kernel_rfl) ?_
      repeat (first | (refine OpsL.p (by subst_vars; decide) (by (first | (exact aop_extract (by (first | (simp only [ASt.ev, tmPut, ↓reduceIte, reduceIte, Nat.reduceEqDiff, plain1, *]; rfl) | fail)) (by exact rfl)) | fail)) ?_) | (refine OpsL.nil ?_; ((repeat (first | refine blockExit_eq ?_ | refine blockExit_ne (by decide) ?_ | refine blockExit_normal ?_ | refine blockExit_ret ?_ | refine blockExit_goto ?_)); first | (change Trip _ _ _ _ _) | dsimp only | skip)) | fail)
      refine OpsK.one rfl (by kernel_rfl) ?_
      repeat (first | (refine OpsL.p (by subst_vars; decide) (by (first | (exact aop_extract (by (first | (simp only [ASt.ev, tmPut, ↓reduceIte, reduceIte, Nat.reduceEqDiff, plain1, *]; rfl) | fail)) (by exact rfl)) | fail)) ?_) | (refine OpsL.nil ?_; ((repeat (first | refine blockExit_eq ?_ | refine blockExit_ne (by decide) ?_ | refine blockExit_normal ?_ | refine blockExit_ret ?_ | refine blockExit_goto ?_)); first | (change Trip _ _ _ _ _) | dsimp only | skip)) | fail)
      refine OpsK.one rfl (by kernel_rfl) ?_
      repeat (first | (refine OpsL.p (by subst_vars; decide) (by (first | (exact aop_assign (by (first | (simp only [ASt.ev, tmPut, ↓reduceIte, reduceIte, Nat.reduceEqDiff, plain1, *]; rfl) | fail))) | fail)) ?_) | (refine OpsL.nil ?_; ((repeat (first | refine blockExit_eq ?_ | refine blockExit_ne (by decide) ?_ | refine blockExit_normal ?_ | refine blockExit_ret ?_ | refine blockExit_goto ?_)); first | (change Trip _ _ _ _ _) | dsimp only | skip)) | fail)
      refine OpsK.one rfl (by kernel_rfl) ?_
      repeat (first | (refine OpsL.p (by subst_vars; decide) (by (first | (exact aop_assign (by (first | (simp only [ASt.ev, tmPut, ↓reduceIte, reduceIte, Nat.reduceEqDiff, plain1, *]; rfl) | fail))) | fail)) ?_) | (refine OpsL.nil ?_; ((repeat (first | refine blockExit_eq ?_ | refine blockExit_ne (by decide) ?_ | refine blockExit_normal ?_ | refine blockExit_ret ?_ | refine blockExit_goto ?_)); first | (change Trip _ _ _ _ _) | dsimp only | skip)) | fail)
      refine OpsK.nil ?_
      exact ⟨rfl, _, rfl, by simp [tmPut, *], by simp [tmPut, *], by simp [tmPut]⟩
    · clear e0 e1 e2
      rintro e st ⟨rfl, tm', rfl, e0, e7, e9⟩
      ((repeat (first | refine blockExit_eq ?_ | refine blockExit_ne (by decide) ?_ | refine blockExit_normal ?_ | refine blockExit_ret ?_ | refine blockExit_goto ?_)); first | (change Trip _ _ _ _ _) | dsimp only | skip)
      repeat (first | (refine OpsL.p (by subst_vars; decide) (by (first | (exact aop_move (by (first | (simp only [ASt.ev, tmPut, ↓reduceIte, reduceIte, Nat.reduceEqDiff, plain1, *]; rfl) | fail))) | (exact aop_not (by (first | (simp only [ASt.ev, tmPut, ↓reduceIte, reduceIte, Nat.reduceEqDiff, plain1, *]; rfl) | fail))) | fail)) ?_) | (refine Trip.seq ?_) | (refine Trip.ops ?_) | (refine OpsL.nil ?_; ((repeat (first | refine blockExit_eq ?_ | refine blockExit_ne (by decide) ?_ | refine blockExit_normal ?_ | refine blockExit_ret ?_ | refine blockExit_goto ?_)); first | (change Trip _ _ _ _ _) | dsimp only | skip)) | fail)
      refine Trip.iteB (b := true) (by (first | (simp only [ASt.ev, tmPut, ↓reduceIte, reduceIte, Nat.reduceEqDiff, decide_true, decide_false, not_true_eq_false, not_false_eq_true, Bool.not_true, Bool.not_false, *]; done) | fail)) (fun _ => ?_) (fun h => absurd h (by decide))
      repeat (first | (refine OpsL.p (by subst_vars; decide) (by (first | (exact aop_move (by (first | (simp only [ASt.ev, tmPut, ↓reduceIte, reduceIte, Nat.reduceEqDiff, plain1, *]; rfl) | fail))) | (exact aop_fieldAddr (by (first | (simp only [ASt.ev, tmPut, ↓reduceIte, reduceIte, Nat.reduceEqDiff, plain1, *]; rfl) | fail)) (by exact rfl)) | (exact aop_load (by (first | (simp only [ASt.ev, tmPut, ↓reduceIte, reduceIte, Nat.reduceEqDiff, plain1, *]; rfl) | fail)) (by exact rfl) rfl (by assumption)) | (exact aop_nilCheck (by (first | (simp only [ASt.ev, tmPut, ↓reduceIte, reduceIte, Nat.reduceEqDiff, plain1, *]; rfl) | fail))) | fail)) ?_) | (refine Trip.seq ?_) | (refine Trip.ops ?_) | fail)
      refine OpsL.p (by subst_vars; decide) (aop_lenM (by (first | (simp only [ASt.ev, tmPut, ↓reduceIte, reduceIte, Nat.reduceEqDiff, plain1, *]; done) | fail)) (by exact rfl) hm) ?_
      rw [hMl]
      repeat (first | (refine OpsL.p (by subst_vars; decide) (by (first | (exact aop_assign (by (first | (simp only [ASt.ev, tmPut, ↓reduceIte, reduceIte, Nat.reduceEqDiff, plain1, *]; rfl) | fail))) | (exact aop_add (by (first | (simp only [ASt.ev, tmPut, ↓reduceIte, reduceIte, Nat.reduceEqDiff, plain1, *]; rfl) | fail)) (by (first | (simp only [ASt.ev, tmPut, ↓reduceIte, reduceIte, Nat.reduceEqDiff, plain1, *]; rfl) | fail)) (by omega)) | fail)) ?_) | (refine OpsL.nil ?_; ((repeat (first | refine blockExit_eq ?_ | refine blockExit_ne (by decide) ?_ | refine blockExit_normal ?_ | refine blockExit_ret ?_ | refine blockExit_goto ?_)); first | (change Trip _ _ _ _ _) | dsimp only | skip)) | fail)
      refine Trip.mono (Q := fun e st => e = .normal ∧ ∃ (tm' : Nat → Value), st = ⟨tm', n, G.put m (.map ((M ++ [(linkF a c, (M.length : Int) + 1)]).map encE) (bs ++ [clk]) (clk + 1)), nx + 2 + 1⟩ ∧ tm' 8 = .int .i64 ((M.length : Int) + 1)) ?_ ?_
      · refine OpsL.drawn mixedP (by kernel_rfl) (by kernel_rfl) ?_
        repeat (first | (refine OpsL.p (by subst_vars; decide) (by (first | (exact aop_move (by (first | (simp only [ASt.ev, tmPut, ↓reduceIte, reduceIte, Nat.reduceEqDiff, plain1, *]; rfl) | fail))) | (exact aop_fieldAddr (by (first | (simp only [ASt.ev, tmPut, ↓reduceIte, reduceIte, Nat.reduceEqDiff, plain1, *]; rfl) | fail)) (by exact rfl)) | (exact aop_load (by (first | (simp only [ASt.ev, tmPut, ↓reduceIte, reduceIte, Nat.reduceEqDiff, plain1, *]; rfl) | fail)) (by exact rfl) rfl (by assumption)) | (exact aop_nilCheck (by (first | (simp only [ASt.ev, tmPut, ↓reduceIte, reduceIte, Nat.reduceEqDiff, plain1, *]; rfl) | fail))) | fail)) ?_) | fail)
        refine OpsL.p (by subst_vars; decide) (aop_loadAgg (k := 16) (vs := (linkF a c).flatMap encP) (by (first | (simp only [ASt.ev, tmPut, ↓reduceIte, reduceIte, Nat.reduceEqDiff, plain1, *]; done) | fail)) (by exact rfl) rfl (by exact rfl) gk) ?_
        repeat (first | (refine OpsL.p (by subst_vars; decide) (by (first | (exact aop_move (by (first | (simp only [ASt.ev, tmPut, ↓reduceIte, reduceIte, Nat.reduceEqDiff, plain1, *]; rfl) | fail))) | fail)) ?_) | fail)
        refine OpsL.upd (aop_mapUpdate (by (first | (simp only [ASt.ev, tmPut, ↓reduceIte, reduceIte, Nat.reduceEqDiff, plain1, *]; done) | fail)) (by (first | (simp only [ASt.ev, tmPut, ↓reduceIte, reduceIte, Nat.reduceEqDiff, plain1, *]; rfl) | fail)) (by (first | (simp only [ASt.ev, tmPut, ↓reduceIte, reduceIte, Nat.reduceEqDiff, plain1, *]; done) | fail)) (LinksAt.put (v := (M.length : Int) + 1) h8 hm hl8 hlk)) ?_
        refine OpsL.nil ?_
        exact ⟨rfl, _, rfl, by simp [tmPut, *]⟩
      · clear e0 e7 e9
        rintro e st ⟨rfl, tm', rfl, e8⟩
        ((repeat (first | refine blockExit_eq ?_ | refine blockExit_ne (by decide) ?_ | refine blockExit_normal ?_ | refine blockExit_ret ?_ | refine blockExit_goto ?_)); first | (change Trip _ _ _ _ _) | dsimp only | skip)
        repeat (first | (refine OpsL.p (by subst_vars; decide) (by (first | (exact aop_move (by (first | (simp only [ASt.ev, tmPut, ↓reduceIte, reduceIte, Nat.reduceEqDiff, plain1, *]; rfl) | fail))) | (exact aop_assign (by (first | (simp only [ASt.ev, tmPut, ↓reduceIte, reduceIte, Nat.reduceEqDiff, plain1, *]; rfl) | fail))) | fail)) ?_) | (refine Trip.seq ?_) | (refine Trip.ops ?_) | (refine Trip.ret ?_; ((repeat (first | refine blockExit_eq ?_ | refine blockExit_ne (by decide) ?_ | refine blockExit_normal ?_ | refine blockExit_ret ?_ | refine blockExit_goto ?_)); first | (change Trip _ _ _ _ _) | dsimp only | skip)) | (refine OpsL.nil ?_; ((repeat (first | refine blockExit_eq ?_ | refine blockExit_ne (by decide) ?_ | refine blockExit_normal ?_ | refine blockExit_ret ?_ | refine blockExit_goto ?_)); first | (change Trip _ _ _ _ _) | dsimp only | skip)) | fail)
        exact ⟨.inr rfl, _, res_tmp, by simp [tmPut, *], rfl, rfl⟩

end Go.Proofs.Ytigincejpjajpaa

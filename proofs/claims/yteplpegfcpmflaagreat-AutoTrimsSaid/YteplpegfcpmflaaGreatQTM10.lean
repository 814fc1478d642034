import Derived.Test.YteplpegfcpmflaaGreatQTM9
set_option linter.unusedSimpArgs false
set_option linter.unusedVariables false
set_option maxRecDepth 100000
set_option maxHeartbeats 64000000
namespace Go.Am
def zdF (r : R4) : R3 := (r.1, r.2.1, 0)
def zeP (r : R4) : R3 := (r.1, r.2.1, r.2.2.1)
def zgm (r : R3) : R3 := (r.1, r.2.1, 0)
def z8u (a : Aut) : List R3 := a.opens.map zdF ++ a.closes.map zeP ++ a.inners.map zgm
def cuV (c : R3) : Value := .agg (e3 c).toArray
structure Dist (C l : List R3) : Prop where
 nodup : C.Nodup
 all : ∀ c, c ∈ C ↔ c ∈ l
theorem Dist.old {C l : List R3} {c : R3} (h : Dist C l) (hc : c ∈ C) : Dist C (l ++ [c]) := ⟨h.nodup, fun x => by
 rw [h.all, List.mem_append, List.mem_singleton];constructor
 ·exact .inl
 ·rintro (q | rfl)
  ·exact q
  ·exact (h.all _).1 hc⟩
theorem Dist.new {C l : List R3} {c : R3} (h : Dist C l) (hc : c ∉ C) : Dist (C ++ [c]) (l ++ [c]) := ⟨by
 rw [List.nodup_append];refine ⟨h.nodup, by simp, fun x hx y hy => ?_⟩;rw [List.mem_singleton] at hy;subst hy;exact fun e => hc (e ▸ hx), fun x => by rw [List.mem_append, List.mem_append, h.all]⟩
theorem zaW {α : Type} [DecidableEq α] : ∀ (l m : List α), l.Nodup → (∀ x ∈ l, x ∈ m) → l.length ≤ m.length := by
 intro l
 induction l with
 | nil => intro m _ _; simp
 | cons x l ih =>
  intro m hn h;obtain ⟨h1, h2⟩ := List.nodup_cons.1 hn;have hx := h x (by simp)
  have := ih (m.erase x) h2 (fun y hy => by
   have hne : y ≠ x := fun e => h1 (e ▸ hy);exact (List.mem_erase_of_ne hne).2 (h y (by simp [hy])))
  rw [List.length_erase_of_mem hx] at this;have := List.length_pos_of_mem hx;simp only [List.length_cons];omega
def zgB (l : List R3) : Nat := l.eraseDups.length
theorem z6q : ∀ (n : Nat) (l : List R3), l.length ≤ n → l.eraseDups.Nodup := by
 intro n
 induction n with
 | zero => intro l h; have : l = [] := List.eq_nil_of_length_eq_zero (by omega); subst this; simp
 | succ n ih =>
  intro l h;cases l with
  | nil => simp
  | cons x l =>
   rw [List.eraseDups_cons, List.nodup_cons];refine ⟨fun hm => ?_, ih _ (Nat.le_trans (List.length_filter_le _ _) (by simpa using h))⟩;rw [List.mem_eraseDups] at hm;simp at hm
theorem Dist.len {C l : List R3} (h : Dist C l) : C.length = zgB l := by
 have h2 := z6q l.length l (Nat.le_refl _);refine Nat.le_antisymm (zaW C _ h.nodup fun x hx => ?_) (zaW _ C h2 fun x hx => ?_)
 ·rw [List.mem_eraseDups]; exact (h.all x).1 hx
 ·rw [List.mem_eraseDups] at hx; exact (h.all x).2 hx
theorem z7x {α : Type} {f : α → R3} {l : List α} {i : Nat} (h : i < l.length) : (l.take (i + 1)).map f = (l.take i).map f ++ [f l[i]] := by
 rw [List.take_succ_eq_append_getElem h, List.map_append];rfl
end Go.Am
namespace Go.Proofs.YteplpegfcpmflaaGreat
open Go.RowKit Go.Am
attribute [local irreducible] aop OpsL Trip zC z36 OpsK OpsR
theorem z7c : Am.z0F Tryz.prog 28 := ⟨Tryz.f28, Tryz.func28, by kernel_rfl, by kernel_rfl⟩
theorem zhS (H : Heap) (x y : R3) : aEq Tryz.prog H 60 112 (cuV x) (cuV y) = some (decide (x = y)) := by
 have h1 : Tryz.prog.stoodInHeld 112 = false := by kernel_rfl
 obtain ⟨a, b, c⟩ := x;obtain ⟨d, e, f⟩ := y
 have key : aEq Tryz.prog H 60 112 (cuV (a, b, c)) (cuV (d, e, f)) = some ((a == d) && ((b == e) && (c == f))) := by
  cases h : (a == d) <;> cases h2 : (b == e) <;> cases h3 : (c == f) <;> simp [cuV, Go.Am.e3, aEq, z1B, z0A, z2E, h, h2, h3, h1, Tryz.underlying112, Tryz.underlying3]
 rw [key];congr 1;rw [Bool.eq_iff_iff];simp
theorem zbK {v : R3 → Value} (H : Heap) (k : R3) : ∀ (l : List R3) (i : Nat), k ∉ l → z11 Tryz.prog H 112 (cuV k) (l.map fun t => (cuV t, v t)) i = some none := by
 intro l
 induction l with
 | nil => intro i _; rfl
 | cons t l ih =>
  intro i h;simp only [List.mem_cons, not_or] at h;simp only [List.map_cons, z11, zhS, decide_eq_false h.1];exact ih (i + 1) h.2
theorem zbJ {v : R3 → Value} (H : Heap) (k : R3) : ∀ (l : List R3) (i : Nat), k ∈ l → ∃ j, z11 Tryz.prog H 112 (cuV k) (l.map fun t => (cuV t, v t)) i = some (some (i + j, v k)) ∧ l[j]? = some k := by
 intro l
 induction l with
 | nil => intro i h; cases h
 | cons t l ih =>
  intro i h;by_cases e : k = t
  ·subst e
   exact ⟨0, by simp only [List.map_cons, z11, zhS, decide_true]; rfl, rfl⟩
  ·obtain ⟨j, h1, h2⟩ := ih (i + 1) ((List.mem_cons.1 h).resolve_left e)
   refine ⟨j + 1, ?_, h2⟩;simp only [List.map_cons, z11, zhS, decide_eq_false e];rw [h1];congr 3;omega
theorem zhc (k : R3) (H : Heap) : z0Q Tryz.prog 60 112 (cuV k) = true ∧ z8k H (cuV k) = true := ⟨by kernel_rfl, by kernel_rfl⟩
theorem zhb (k : R3) : zG.veqk (cuV k) (cuV k) = true := by
 obtain ⟨a, b, c⟩ := k;simp [cuV, Go.Am.e3, zG.veqk, zG.eqs, zG.eq1]
theorem z7G {H : Heap} {m : Nat} {bs : List Nat} {clk : Nat} {C l : List R3} (hm : H m = some (.map (C.map fun t => (cuV t, .agg #[])) bs clk)) (hd : Dist C l) (k : R3) :
  ∃ C' bs' clk', Dist C' (l ++ [k]) ∧ zG Tryz.prog H 59 (.map (some m)) (cuV k) (.agg #[]) = some (.upd m (.map (C'.map fun t => (cuV t, .agg #[])) bs' clk')) := by
 obtain ⟨c1, c2⟩ := zhc k H;by_cases hk : k ∈ C
 ·obtain ⟨j, h1, h2⟩ := zbJ (v := fun _ => .agg #[]) H k C 0 hk
  refine ⟨C, bs, clk, hd.old hk, ?_⟩;have h3 : (C.map fun t => ((cuV t, .agg #[]) : Value × Value))[0 + j]? = some (cuV k, .agg #[]) := by rw [List.getElem?_map, Nat.zero_add, h2]; rfl
  have h4 : (C.map fun t => ((cuV t, .agg #[]) : Value × Value)).set (0 + j) (cuV k, .agg #[]) = C.map fun t => ((cuV t, .agg #[]) : Value × Value) := by
   obtain ⟨hj, he⟩ := List.getElem?_eq_some_iff.1 h3;rw [← he, List.set_getElem_self]
  unfold zG;simp only [Tryz.underlying59, hm, c1, c2, show (Tryz.prog.underlying 112).isSome = true from rfl, and_self, if_true, h1, h3, zhb, h4]
 ·refine ⟨C ++ [k], bs ++ [clk], clk + 1, hd.new hk, ?_⟩
  unfold zG;simp only [Tryz.underlying59, hm, c1, c2, show (Tryz.prog.underlying 112).isSome = true from rfl, and_self, if_true, zbK (v := fun _ => .agg #[]) H k C 0 hk, List.map_append, List.map_cons, List.map_nil]
theorem zgM (W0 : World) {nx : Nat} {H : Heap} {a : Aut} {vi vf vo vc vn : Value} (ha : AutIn H a vi vf vo vc vn) (hn : AutLen a) :
  ACalls Tryz.prog W0 28 [.agg (zA a vi vf vo vc vn).toArray] nx H fun v nx' H' => ∃ m C bs clk, v = .map (some m) ∧ H' m = some (.map (C.map fun t => (cuV t, .agg #[])) bs clk) ∧ Dist C (z8u a) ∧ Ext nx H nx' H' := by
 obtain ⟨oa, oc, rfl⟩ := ha.opens.slice;obtain ⟨ca, cc, rfl⟩ := ha.closes.slice;obtain ⟨na, nc, rfl⟩ := ha.inners.slice;refine ze (fn := Tryz.f28) (c := _) Tryz.func28 rfl (fun tm n hn0 htm => ?_);have e0 : tm 0 = .agg (zA a vi vf (.slice oa a.opens.length oc) (.slice ca a.closes.length cc) (.slice na a.inners.length nc)).toArray := htm 0;clear htm;replace hn0 : n = 59 := hn0;refine Trip.ok fun hok => ?_;replace hok : ∀ id o, H id = some o → id < nx := hok;refine z5o ?_;refine OpsL.new (by subst_vars; decide) (zW evr) ?_;obtain ⟨G, hG⟩ : ∃ G, G = H.put nx (.cells (Value.agg (zA a vi vf (.slice oa a.opens.length oc) (.slice ca a.closes.length cc) (.slice na a.inners.length nc)).toArray).cells.toList 0 none false (some 30)) := ⟨_, rfl⟩;have hx0 : Ext nx H (nx + 1) G := by rw [hG]; exact zg
 have ok0 : ∀ id o, G id = some o → id < nx + 1 := by rw [hG]; exact zB hok
 have g0 : G nx = some (.cells (zA a vi vf (.slice oa a.opens.length oc) (.slice ca a.closes.length cc) (.slice na a.inners.length nc)) 0 none false (some 30)) := by rw [hG, z6]; rfl
 rw [← hG];clear hG e0;refine z9r ?_;refine OpsL.new (by subst_vars; decide) z25 ?_;obtain ⟨G1, hG1⟩ : ∃ G1, G1 = G.put (nx + 1) (.map [] [] 0) := ⟨_, rfl⟩;have x1 : Ext (nx + 1) G (nx + 1 + 1) G1 := by rw [hG1]; exact zg
 have ok1 : ∀ id o, G1 id = some o → id < nx + 1 + 1 := by rw [hG1]; exact zB ok0
 have gm : G1 (nx + 1) = some (.map [] [] 0) := by rw [hG1, z6]
 have g1 := (x1.2 nx (by omega)).trans g0;rw [← hG1];clear hG1 g0;have hx1 := hx0.trans x1;have q4 := hn.opens;have q5 := hn.closes;have q6 := hn.inners;clear hx0 x1 ok0;have cl0 : zb G1 ⟨nx, 0 + 4, none⟩ (.slice oa a.opens.length oc) := by rw [Nat.zero_add]; exact z8 g1 rfl
 refine zhO ?_;refine Trip.mono (Q := fun e st => e = .exit 0 ∧ ∃ (tm' : Nat → Value) (J : Heap) (m : Nat) (C : List R3) (bs : List Nat) (clk : Nat), st = ⟨tm', n, J, m⟩ ∧ nx + 1 + 1 ≤ m ∧ (∀ j, j < nx + 1 → J j = G1 j) ∧ (∀ id o, J id = some o → id < m) ∧ J (nx + 1) = some (.map (C.map fun t => (cuV t, .agg #[])) bs clk) ∧ Dist C (a.opens.map zdF) ∧ tm' 1 = .pointer (some ⟨nx, 0, none⟩) ∧ tm' 3 = .map (some (nx + 1))) ?_ ?_
 ·refine zu (fun (i : Nat) st => ∃ (tm' : Nat → Value) (J : Heap) (m : Nat) (C : List R3) (bs : List Nat) (clk : Nat), st = ⟨tm', n, J, m⟩ ∧ nx + 1 + 1 ≤ m ∧ (∀ j, j < nx + 1 → J j = G1 j) ∧ (∀ id o, J id = some o → id < m) ∧ J (nx + 1) = some (.map (C.map fun t => (cuV t, .agg #[])) bs clk) ∧ Dist C ((a.opens.take i).map zdF) ∧ tm' 1 = .pointer (some ⟨nx, 0, none⟩) ∧ tm' 3 = .map (some (nx + 1)) ∧ tm' 12 = .slice oa a.opens.length oc ∧ tm' 13 = .int .i64 (a.opens.length : Int) ∧ tm' 14 = .int .i64 (i : Int) ∧ i ≤ a.opens.length) (fun i => a.opens.length - i) 0 ?_ ?_
  ·exact ⟨_, _, _, [], [], 0, rfl, Nat.le_refl _, fun _ _ => rfl, ok1, gm, ⟨List.nodup_nil, fun c => by simp⟩, stp, stp, stp, stp, stp, Nat.zero_le _⟩
  ·skip
   rintro i st ⟨tm', J, m, C, bs, clk, rfl, hm, fr, okJ, hM, hd, e1, e3, ea, el, ei, hi⟩;have gJ := (fr nx (by omega)).trans g1;by_cases hlt : i < a.opens.length
   case neg =>
    have hie : i = a.opens.length := by omega
    subst hie;rw [List.take_length] at hd;refine z9t ?_;exact ⟨rfl, _, J, m, C, bs, clk, rfl, hm, fr, okJ, hM, hd, stp, stp⟩
   case pos =>
    obtain ⟨p, hp, gr⟩ := z01 (ha.ext (⟨by omega, fun j hj => (fr j (by omega)).trans (hx1.2 j hj)⟩ : Ext nx H m J) hok).opens hlt;subst hp;have htk := z7x (f := zdF) hlt;obtain ⟨r, hr⟩ : ∃ r, a.opens[i] = r := ⟨_, rfl⟩;rw [hr] at gr htk;refine zcj ?_;refine z7 (za (k := 4) (vs := Go.Am.e4 r) evr (by exact rfl) rfl (by exact rfl) gr) ?_;refine OpsL.new (by subst_vars; decide) (zw (l := [.int .i64 0, .int .i64 0, .int .i64 0, .int .i64 0]) krf) ?_;refine OpsL.upd (zp (k := 4) (u := .agg (Go.Am.e4 r).toArray) evd evd (by exact rfl) rfl (o := .cells (Go.Am.e4 r) 0 none false (some 43)) (zz (vs := (Go.Am.e4 r)) z6 rfl rfl)) ?_;obtain ⟨G4, hG4⟩ : ∃ G0, G0 = (J.put m (.cells [.int .i64 0, .int .i64 0, .int .i64 0, .int .i64 0] 0 none false (some 43))).put m (.cells (Go.Am.e4 r) 0 none false (some 43)) := ⟨_, rfl⟩;have xG4 : Ext m J (m + 1) G4 := ⟨Nat.le_succ _, fun j hj => by rw [hG4, z5 (by omega), z5 (by omega)]⟩;have kG4 : ∀ id o, G4 id = some o → id < m + 1 := by rw [hG4]; exact zL (zB okJ) z6
    have bG4 : G4 m = some (.cells (Go.Am.e4 r) 0 none false (some 43)) := by rw [hG4, z6]
    first | rw [← hG4] | skip
    clear hG4;clear gr;have c0 : zb G4 ⟨m, 0 + 0, none⟩ (.int .i64 r.1) := by rw [Nat.zero_add]; exact z8 bG4 rfl
    have c1 : zb G4 ⟨m, 0 + 1, none⟩ (.int .i64 r.2.1) := by rw [Nat.zero_add]; exact z8 bG4 rfl
    have hM4 := (xG4.2 (nx + 1) (by omega)).trans hM;obtain ⟨C', bs', clk', hd', hu⟩ := z7G hM4 hd (zdF r);refine zgb ?_;refine z7 (zy (v := cuV (zdF r)) (l := [(0, .int .i64 r.1), (1, .int .i64 r.2.1)]) (by simp only [zt, ASt.ev, z9, ↓reduceIte, reduceIte, Option.some.injEq, Nat.reduceEqDiff, zY, zk, *]) krf) ?_;refine z7 (zy (v := .agg #[]) (l := []) (by simp only [zt]) krf) ?_;refine OpsL.upd (z0V evd evd evd hu) ?_;refine zeC ?_;exact ⟨i + 1, ⟨_, _, _, C', bs', clk', rfl, by omega, fun j hj => by rw [z5 (by omega), xG4.2 j (by omega)]; exact fr j hj, zL kG4 hM4, z6, by rw [htk]; exact hd', stp, stp, stp, stp, stp, by omega⟩, by omega⟩
 rintro e st ⟨rfl, tm1, J1, m1, C1, bs1, clk1, rfl, hm1, fr1, ok1d, hM1, hd1, e1, e3⟩;refine z6W ?_;have g11 := (fr1 nx (by omega)).trans g1;have cl1 : zb J1 ⟨nx, 0 + 5, none⟩ (.slice ca a.closes.length cc) := by rw [Nat.zero_add]; exact z8 g11 rfl
 refine zfh ?_;refine Trip.mono (Q := fun e st => e = .exit 2 ∧ ∃ (tm' : Nat → Value) (J : Heap) (m : Nat) (C : List R3) (bs : List Nat) (clk : Nat), st = ⟨tm', n, J, m⟩ ∧ nx + 1 + 1 ≤ m ∧ (∀ j, j < nx + 1 → J j = G1 j) ∧ (∀ id o, J id = some o → id < m) ∧ J (nx + 1) = some (.map (C.map fun t => (cuV t, .agg #[])) bs clk) ∧ Dist C (a.opens.map zdF ++ a.closes.map zeP) ∧ tm' 1 = .pointer (some ⟨nx, 0, none⟩) ∧ tm' 3 = .map (some (nx + 1))) ?_ ?_
 ·refine zu (fun (i : Nat) st => ∃ (tm' : Nat → Value) (J : Heap) (m : Nat) (C : List R3) (bs : List Nat) (clk : Nat), st = ⟨tm', n, J, m⟩ ∧ nx + 1 + 1 ≤ m ∧ (∀ j, j < nx + 1 → J j = G1 j) ∧ (∀ id o, J id = some o → id < m) ∧ J (nx + 1) = some (.map (C.map fun t => (cuV t, .agg #[])) bs clk) ∧ Dist C (a.opens.map zdF ++ (a.closes.take i).map zeP) ∧ tm' 1 = .pointer (some ⟨nx, 0, none⟩) ∧ tm' 3 = .map (some (nx + 1)) ∧ tm' 27 = .slice ca a.closes.length cc ∧ tm' 28 = .int .i64 (a.closes.length : Int) ∧ tm' 29 = .int .i64 (i : Int) ∧ i ≤ a.closes.length) (fun i => a.closes.length - i) 0 ?_ ?_
  ·exact ⟨_, _, _, C1, bs1, clk1, rfl, hm1, fr1, ok1d, hM1, by simpa using hd1, stp, stp, stp, stp, stp, Nat.zero_le _⟩
  ·clear e1 e3
   rintro i st ⟨tm', J, m, C, bs, clk, rfl, hm, fr, okJ, hM, hd, e1, e3, ea, el, ei, hi⟩;have gJ := (fr nx (by omega)).trans g1;by_cases hlt : i < a.closes.length
   case neg =>
    have hie : i = a.closes.length := by omega
    subst hie;rw [List.take_length] at hd;refine z9t ?_;exact ⟨rfl, _, J, m, C, bs, clk, rfl, hm, fr, okJ, hM, hd, stp, stp⟩
   case pos =>
    obtain ⟨p, hp, gr⟩ := z01 (ha.ext (⟨by omega, fun j hj => (fr j (by omega)).trans (hx1.2 j hj)⟩ : Ext nx H m J) hok).closes hlt;subst hp;have htk := z7x (f := zeP) hlt;obtain ⟨r, hr⟩ : ∃ r, a.closes[i] = r := ⟨_, rfl⟩;rw [hr] at gr htk;refine zcj ?_;refine z7 (za (k := 4) (vs := Go.Am.e4 r) evr (by exact rfl) rfl (by exact rfl) gr) ?_;refine OpsL.new (by subst_vars; decide) (zw (l := [.int .i64 0, .int .i64 0, .int .i64 0, .int .i64 0]) krf) ?_;refine OpsL.upd (zp (k := 4) (u := .agg (Go.Am.e4 r).toArray) evd evd (by exact rfl) rfl (o := .cells (Go.Am.e4 r) 0 none false (some 45)) (zz (vs := (Go.Am.e4 r)) z6 rfl rfl)) ?_;obtain ⟨G4, hG4⟩ : ∃ G0, G0 = (J.put m (.cells [.int .i64 0, .int .i64 0, .int .i64 0, .int .i64 0] 0 none false (some 45))).put m (.cells (Go.Am.e4 r) 0 none false (some 45)) := ⟨_, rfl⟩;have xG4 : Ext m J (m + 1) G4 := ⟨Nat.le_succ _, fun j hj => by rw [hG4, z5 (by omega), z5 (by omega)]⟩;have kG4 : ∀ id o, G4 id = some o → id < m + 1 := by rw [hG4]; exact zL (zB okJ) z6
    have bG4 : G4 m = some (.cells (Go.Am.e4 r) 0 none false (some 45)) := by rw [hG4, z6]
    first | rw [← hG4] | skip
    clear hG4;clear gr;have c0 : zb G4 ⟨m, 0 + 0, none⟩ (.int .i64 r.1) := by rw [Nat.zero_add]; exact z8 bG4 rfl
    have c1 : zb G4 ⟨m, 0 + 1, none⟩ (.int .i64 r.2.1) := by rw [Nat.zero_add]; exact z8 bG4 rfl
    have c2 : zb G4 ⟨m, 0 + 2, none⟩ (.int .i64 r.2.2.1) := by rw [Nat.zero_add]; exact z8 bG4 rfl
    have hM4 := (xG4.2 (nx + 1) (by omega)).trans hM;obtain ⟨C', bs', clk', hd', hu⟩ := z7G hM4 hd (zeP r);refine zgb ?_;refine z7 (zy (v := cuV (zeP r)) (l := [(0, .int .i64 r.1), (1, .int .i64 r.2.1), (2, .int .i64 r.2.2.1)]) (by simp only [zt, ASt.ev, z9, ↓reduceIte, reduceIte, Option.some.injEq, Nat.reduceEqDiff, zY, zk, *]) krf) ?_;refine z7 (zy (v := .agg #[]) (l := []) (by simp only [zt]) krf) ?_;refine OpsL.upd (z0V evd evd evd hu) ?_;refine zeC ?_;exact ⟨i + 1, ⟨_, _, _, C', bs', clk', rfl, by omega, fun j hj => by rw [z5 (by omega), xG4.2 j (by omega)]; exact fr j hj, zL kG4 hM4, z6, by rw [htk, ← List.append_assoc]; exact hd', stp, stp, stp, stp, stp, by omega⟩, by omega⟩
 rintro e st ⟨rfl, tm2, J2, m2, C2, bs2, clk2, rfl, hm2, fr2, ok2d, hM2, hd2, e1, e3⟩;refine z6W ?_;have g12 := (fr2 nx (by omega)).trans g1;have cl2 : zb J2 ⟨nx, 0 + 6, none⟩ (.slice na a.inners.length nc) := by rw [Nat.zero_add]; exact z8 g12 rfl
 refine zfh ?_;refine Trip.mono (Q := fun e st => e = .exit 4 ∧ ∃ (tm' : Nat → Value) (J : Heap) (m : Nat) (C : List R3) (bs : List Nat) (clk : Nat), st = ⟨tm', n, J, m⟩ ∧ nx + 1 + 1 ≤ m ∧ (∀ j, j < nx + 1 → J j = G1 j) ∧ (∀ id o, J id = some o → id < m) ∧ J (nx + 1) = some (.map (C.map fun t => (cuV t, .agg #[])) bs clk) ∧ Dist C (a.opens.map zdF ++ a.closes.map zeP ++ a.inners.map zgm) ∧ tm' 1 = .pointer (some ⟨nx, 0, none⟩) ∧ tm' 3 = .map (some (nx + 1))) ?_ ?_
 ·refine zu (fun (i : Nat) st => ∃ (tm' : Nat → Value) (J : Heap) (m : Nat) (C : List R3) (bs : List Nat) (clk : Nat), st = ⟨tm', n, J, m⟩ ∧ nx + 1 + 1 ≤ m ∧ (∀ j, j < nx + 1 → J j = G1 j) ∧ (∀ id o, J id = some o → id < m) ∧ J (nx + 1) = some (.map (C.map fun t => (cuV t, .agg #[])) bs clk) ∧ Dist C (a.opens.map zdF ++ a.closes.map zeP ++ (a.inners.take i).map zgm) ∧ tm' 1 = .pointer (some ⟨nx, 0, none⟩) ∧ tm' 3 = .map (some (nx + 1)) ∧ tm' 44 = .slice na a.inners.length nc ∧ tm' 45 = .int .i64 (a.inners.length : Int) ∧ tm' 46 = .int .i64 (i : Int) ∧ i ≤ a.inners.length) (fun i => a.inners.length - i) 0 ?_ ?_
  ·exact ⟨_, _, _, C2, bs2, clk2, rfl, hm2, fr2, ok2d, hM2, by simpa using hd2, stp, stp, stp, stp, stp, Nat.zero_le _⟩
  ·clear e1 e3
   rintro i st ⟨tm', J, m, C, bs, clk, rfl, hm, fr, okJ, hM, hd, e1, e3, ea, el, ei, hi⟩;have gJ := (fr nx (by omega)).trans g1;by_cases hlt : i < a.inners.length
   case neg =>
    have hie : i = a.inners.length := by omega
    subst hie;rw [List.take_length] at hd;refine z9t ?_;exact ⟨rfl, _, J, m, C, bs, clk, rfl, hm, fr, okJ, hM, hd, stp, stp⟩
   case pos =>
    obtain ⟨p, hp, gr⟩ := z01 (ha.ext (⟨by omega, fun j hj => (fr j (by omega)).trans (hx1.2 j hj)⟩ : Ext nx H m J) hok).inners hlt;subst hp;have htk := z7x (f := zgm) hlt;obtain ⟨r, hr⟩ : ∃ r, a.inners[i] = r := ⟨_, rfl⟩;rw [hr] at gr htk;refine zcj ?_;refine z7 (za (k := 3) (vs := Go.Am.e3 r) evr (by exact rfl) rfl (by exact rfl) gr) ?_;refine OpsL.new (by subst_vars; decide) (zw (l := [.int .i64 0, .int .i64 0, .int .i64 0]) krf) ?_;refine OpsL.upd (zp (k := 3) (u := .agg (Go.Am.e3 r).toArray) evd evd (by exact rfl) rfl (o := .cells (Go.Am.e3 r) 0 none false (some 51)) (zz (vs := (Go.Am.e3 r)) z6 rfl rfl)) ?_;obtain ⟨G4, hG4⟩ : ∃ G0, G0 = (J.put m (.cells [.int .i64 0, .int .i64 0, .int .i64 0] 0 none false (some 51))).put m (.cells (Go.Am.e3 r) 0 none false (some 51)) := ⟨_, rfl⟩;have xG4 : Ext m J (m + 1) G4 := ⟨Nat.le_succ _, fun j hj => by rw [hG4, z5 (by omega), z5 (by omega)]⟩;have kG4 : ∀ id o, G4 id = some o → id < m + 1 := by rw [hG4]; exact zL (zB okJ) z6
    have bG4 : G4 m = some (.cells (Go.Am.e3 r) 0 none false (some 51)) := by rw [hG4, z6]
    first | rw [← hG4] | skip
    clear hG4;clear gr;have c0 : zb G4 ⟨m, 0 + 0, none⟩ (.int .i64 r.1) := by rw [Nat.zero_add]; exact z8 bG4 rfl
    have c1 : zb G4 ⟨m, 0 + 1, none⟩ (.int .i64 r.2.1) := by rw [Nat.zero_add]; exact z8 bG4 rfl
    have hM4 := (xG4.2 (nx + 1) (by omega)).trans hM;obtain ⟨C', bs', clk', hd', hu⟩ := z7G hM4 hd (zgm r);refine zgb ?_;refine z7 (zy (v := cuV (zgm r)) (l := [(0, .int .i64 r.1), (1, .int .i64 r.2.1)]) (by simp only [zt, ASt.ev, z9, ↓reduceIte, reduceIte, Option.some.injEq, Nat.reduceEqDiff, zY, zk, *]) krf) ?_;refine z7 (zy (v := .agg #[]) (l := []) (by simp only [zt]) krf) ?_;refine OpsL.upd (z0V evd evd evd hu) ?_;refine zeC ?_;exact ⟨i + 1, ⟨_, _, _, C', bs', clk', rfl, by omega, fun j hj => by rw [z5 (by omega), xG4.2 j (by omega)]; exact fr j hj, zL kG4 hM4, z6, by rw [htk, ← List.append_assoc]; exact hd', stp, stp, stp, stp, stp, by omega⟩, by omega⟩
 rintro e st ⟨rfl, tm3, J3, m3, C3, bs3, clk3, rfl, hm3, fr3, ok3d, hM3, hd3, e1, e3⟩;refine z6W ?_;have hx3 : Ext nx H m3 J3 := ⟨by omega, fun j hj => (fr3 j (by omega)).trans (hx1.2 j hj)⟩;refine zdC ?_;exact ⟨.inr rfl, _, zh, nx + 1, C3, bs3, clk3, stp, hM3, hd3, hx3⟩
end Go.Proofs.YteplpegfcpmflaaGreat
namespace Go.Am
open Go.RowKit
section
variable {P : Program} {H : Heap} {nx : Nat} {ev : Operand → Option Value} {dst : Option Tmp} {type : TypeId} {pos : String} {after : Array Edge} {guard : Option (Nat × Bool)}
theorem z7X {t : TypeId} {m k : Operand} {a b : Value} {r : Value × Eff} (hm : ev m = some a) (hk : ev k = some b) (h : z2w P H t a b = some r) : aop P H nx ev ⟨dst, .mapEntry t m k, type, pos, after, guard⟩ = some r := by simp [aop, hm, hk, h]
theorem z6r {t : TypeId} {m s x : Operand} {a b c : Value} {e : Eff} (hm : ev m = some a) (hs : ev s = some b) (hx : ev x = some c) (h : z1U H a b c = some e) : aop P H nx ev ⟨dst, .entryStore t m s x, type, pos, after, guard⟩ = some (undef, e) := by simp [aop, hm, hs, hx, h]
end
theorem zds {P : Program} {W0 : World} {ops : Array Oper} {H : Heap} {nx n d k : Nat} {op : Op} {type : TypeId} {pos : String} {after : Array Edge} {l : List Oper} {tm : Nat → Value} {QQ : ASt → Prop} {v : Value} {o : AObj} (hd : d < n) (hop : aop P H nx (ASt.ev ⟨tm, n, H, nx⟩) ⟨some d, op, type, pos, after, none⟩ = some (v, .upd k o)) (h : OpsL P W0 ops l ⟨z9 tm (some d) v, n, H.put k o, nx⟩ QQ) : OpsL P W0 ops (⟨some d, op, type, pos, after, none⟩ :: l) ⟨tm, n, H, nx⟩ QQ :=
 zcC hd hop h
structure WE where
 k : Thg
 v : Value
 ob : Option (Nat × Nat)
 l : List R4
def weV (x : WE) : Value × Value := (thV x.k, x.v)
def z4v (ms : List R4) (t : Thg) : List R4 := ms.filter fun m => decide (t ∈ zN m)
def z4w (ms : List R4) (m : R4) (j : Nat) (t : Thg) : List R4 := z4v ms t ++ if t ∈ (zN m).take j then [m] else []
theorem zbr (ms : List R4) (m : R4) : z4w ms m 0 = z4v ms := by funext t; simp [z4w]
theorem zcX (ms : List R4) (m : R4) : z4w ms m 2 = z4v (ms ++ [m]) := by
 funext t;unfold z4w z4v;rw [List.filter_append];by_cases h : t ∈ zN m
 ·simp [h, List.take_of_length_le (show (zN m).length ≤ 2 from Nat.le_refl _)]
 ·simp [h, List.take_of_length_le (show (zN m).length ≤ 2 from Nat.le_refl _)]
theorem zcY (ms : List R4) (m : R4) (j : Nat) (t : Thg) : (z4w ms m j t).length ≤ ms.length + 1 := by
 unfold z4w z4v;have := List.length_filter_le (fun m => decide (t ∈ zN m)) ms;rw [List.length_append];split <;> simp <;> omega
def zeE (f : Thg → List R4) (t : Thg) (l : List R4) : Thg → List R4 := fun x => if x = t then l else f x
theorem zbs (ms : List R4) (m : R4) {j : Nat} (hj : j < 2) : z4w ms m (j + 1) = zeE (z4w ms m j) ((zN m)[j]'hj) (z4w ms m j ((zN m)[j]'hj) ++ [m]) := by
 funext t;obtain ⟨a, b, c, d⟩ := m
 match j, hj with
 | 0, _ => by_cases h : t = (0, a) <;> simp [z4w, zeE, zN, h]
 | 1, _ =>
  by_cases h : t = (1, b)
  ·subst h; simp [z4w, zeE, zN]
  ·by_cases h2 : t = (0, a) <;> simp [z4w, zeE, zN, h, h2]
end Go.Am
namespace Go.Proofs.YteplpegfcpmflaaGreat
open Go.RowKit Go.Am
attribute [local irreducible] aop OpsL Trip zC z36 OpsK OpsR
theorem z4N : Am.z0F Tryz.prog 58 := ⟨Tryz.f58, Tryz.func58, by kernel_rfl, by kernel_rfl⟩
theorem zcO (H : Heap) (k : Thg) : ∀ (W : List WE) (i : Nat), k ∉ W.map (·.k) → z11 Tryz.prog H 101 (thV k) (W.map weV) i = some none := by
 intro W
 induction W with
 | nil => intro i _; rfl
 | cons t W ih =>
  intro i h;simp only [List.map_cons, List.mem_cons, not_or] at h;simp only [List.map_cons, weV, z11, zgh, decide_eq_false h.1];exact ih (i + 1) h.2
theorem zcN (H : Heap) : ∀ (W : List WE) (i j : Nat) (hj : j < W.length), (W.map (·.k)).Nodup → z11 Tryz.prog H 101 (thV W[j].k) (W.map weV) i = some (some (i + j, W[j].v)) := by
 intro W
 induction W with
 | nil => intro i j hj; simp at hj
 | cons t W ih =>
  intro i j hj hn;rw [List.map_cons, List.nodup_cons] at hn;cases j with
  | zero => simp only [List.map_cons, weV, z11, zgh, List.getElem_cons_zero, decide_true, Nat.add_zero]
  | succ j =>
   have hj' : j < W.length := by simpa using hj
   have hne : W[j].k ≠ t.k := fun e => hn.1 (by rw [← e]; exact List.mem_map.2 ⟨_, List.getElem_mem hj', rfl⟩);simp only [List.map_cons, weV, z11, zgh, List.getElem_cons_succ, decide_eq_false hne];rw [show i + (j + 1) = i + 1 + j by omega];exact ih (i + 1) j hj' hn.2
structure WaitIn (H : Heap) (base mr nx : Nat) (f : Thg → List R4) (W : List WE) : Prop where
 cell : H mr = some (.map (W.map weV) (List.range W.length) W.length)
 nodup : (W.map (·.k)).Nodup
 own : ∀ x ∈ W, zch H x.ob x.v x.l
 val : ∀ x ∈ W, x.l = f x.k
 out : ∀ t, t ∉ W.map (·.k) → f t = []
 blk : ∀ x ∈ W, ∀ b t, x.ob = some (b, t) → base ≤ b ∧ b < nx ∧ b ≠ mr
 sep : ∀ (i j : Nat) (hi : i < W.length) (hj : j < W.length), i ≠ j → ∀ b t b' t', W[i].ob = some (b, t) → W[j].ob = some (b', t') → b ≠ b'
 hmr : base ≤ mr ∧ mr < nx
theorem WaitIn.ext {H H' : Heap} {base mr nx nx' : Nat} {f : Thg → List R4} {W : List WE} (h : WaitIn H base mr nx f W) (hx : Ext nx H nx' H') : WaitIn H' base mr nx' f W :=
 ⟨by rw [hx.2 mr h.hmr.2]; exact h.cell, h.nodup, fun x hm => OwnOf.ext hx (fun b t e => (h.blk x hm b t e).2.1) (h.own x hm), h.val, h.out, fun x hm b t e => by have := h.blk x hm b t e; have := hx.1; omega, h.sep, by have := h.hmr; have := hx.1; omega⟩
theorem WaitIn.entry {H : Heap} {base mr nx : Nat} {f : Thg → List R4} {W : List WE} (h : WaitIn H base mr nx f W) (t : Thg) :
  ∃ (W' : List WE) (j : Nat) (hj : j < W'.length), W'[j].k = t ∧ z2w Tryz.prog H 96 (.map (some mr)) (thV t) = some (.tuple #[W'[j].v, .int .i64 j], .upd mr (.map (W'.map weV) (List.range W'.length) W'.length)) ∧
   WaitIn (H.put mr (.map (W'.map weV) (List.range W'.length) W'.length)) base mr nx f W' ∧ ∀ x ∈ W', ∀ b t, x.ob = some (b, t) → ∃ y ∈ W, y.ob = some (b, t) := by
 obtain ⟨c1, c2, c3⟩ := z8n t H;have hrow : ∀ (W' : List WE), (∀ x ∈ W', ∀ b t, x.ob = some (b, t) → base ≤ b ∧ b < nx ∧ b ≠ mr) → ∀ x ∈ W', zch H x.ob x.v x.l → zch (H.put mr (.map (W'.map weV) (List.range W'.length) W'.length)) x.ob x.v x.l := fun W' hb x hx ho => OwnRow.same (fun b t e => z5 (hb x hx b t e).2.2) ho;by_cases hin : t ∈ W.map (·.k)
 ·obtain ⟨x, hx, hxk⟩ := List.mem_map.1 hin
  obtain ⟨j, hj, hje⟩ := List.getElem_of_mem hx;have hk : W[j].k = t := by rw [hje]; exact hxk
  refine ⟨W, j, hj, hk, ?_, ⟨z6, h.nodup, fun x hx => hrow W h.blk x hx (h.own x hx), h.val, h.out, h.blk, h.sep, h.hmr⟩, fun x hx b t e => ⟨x, hx, e⟩⟩;have hf := zcN H W 0 j hj h.nodup;rw [hk, Nat.zero_add] at hf;have hes : (W.map weV)[j]? = some (thV t, W[j].v) := by rw [List.getElem?_map, List.getElem?_eq_getElem hj]; simp [weV, hk]
  have hbs : (List.range W.length)[j]? = some j := by rw [List.getElem?_range hj]
  have hset : (W.map weV).set j (thV t, W[j].v) = W.map weV := by
   apply List.ext_getElem?;intro i;rw [List.getElem?_set];split
   ·rename_i e
    subst e;rw [hes];split
    ·rfl
    ·rename_i h'; simp at h'; omega
   ·rfl
  have hv : zG.veqk (thV t) (thV t) = true := by obtain ⟨a, b⟩ := t; simp [zG.veqk, thV, z1m, zG.eqs, zG.eq1]
  unfold z2w;simp only [Tryz.underlying96, h.cell, c1, c3, show (Tryz.prog.underlying 101).isSome = true from rfl, and_self, if_true, hf, hes, hbs, hv, hset];rfl
 ·have hk : (W ++ [(⟨t, .slice none 0 0, none, []⟩ : WE)]).length = W.length + 1 := by simp
  refine ⟨W ++ [⟨t, .slice none 0 0, none, []⟩], W.length, by omega, by simp, ?_, ?_, fun x hx b t' e => ?_⟩
  rotate_left 2
  ·rcases List.mem_append.1 hx with hx | hx
   ·exact ⟨x, hx, e⟩
   ·rw [List.mem_singleton] at hx; subst hx; cases e
  ·have hf := zcO H t W 0 hin
   unfold z2w;simp only [Tryz.underlying96, h.cell, c1, c3, show (Tryz.prog.underlying 101).isSome = true from rfl, and_self, if_true, hf, show z6F Tryz.prog 98 = some (.slice none 0 0) from rfl];simp [weV, List.range_succ];rfl
  ·have hbk : ∀ x ∈ W ++ [(⟨t, .slice none 0 0, none, []⟩ : WE)], ∀ b t, x.ob = some (b, t) → base ≤ b ∧ b < nx ∧ b ≠ mr := fun x hx b t' e => by
    rcases List.mem_append.1 hx with hx | hx
    ·exact h.blk x hx b t' e
    ·rw [List.mem_singleton] at hx; subst hx; cases e
   refine ⟨z6, ?_, fun x hx => hrow _ hbk x hx ?_, fun x hx => ?_, fun t' ht' => h.out t' fun hh => ht' (by rw [List.map_append]; exact List.mem_append.2 (.inl hh)), hbk, fun i j hi hj hij b tt b' tt' e1 e2 => ?_, h.hmr⟩
   ·rw [List.map_append, List.nodup_append]
    refine ⟨h.nodup, by simp, fun a ha b hb => ?_⟩;simp at hb;subst hb;exact fun e => hin (by rw [← e]; exact ha)
   ·rcases List.mem_append.1 hx with hx | hx
    ·exact h.own x hx
    ·rw [List.mem_singleton] at hx; subst hx; exact ⟨rfl, rfl, rfl⟩
   ·rcases List.mem_append.1 hx with hx | hx
    ·exact h.val x hx
    ·rw [List.mem_singleton] at hx; subst hx; exact (h.out t hin).symm
   ·by_cases hi' : i < W.length
    ·by_cases hj' : j < W.length
     ·rw [List.getElem_append_left hi'] at e1
      rw [List.getElem_append_left hj'] at e2;exact h.sep i j hi' hj' hij b tt b' tt' e1 e2
     ·rw [List.getElem_append_right (by omega)] at e2
      simp at e2
    ·rw [List.getElem_append_right (by omega)] at e1
     simp at e1
theorem zbH (n j : Nat) (hj : j < n) : (List.range n).findIdx? (fun (b : Nat) => decide ((b : Int) = (j : Int))) = some j := by
 rw [List.findIdx?_eq_some_iff_getElem];refine ⟨by simpa using hj, by simp, fun i hi => ?_⟩;simp;omega
theorem WaitIn.store {H HA H1 : Heap} {base mr nx nxA nx1 : Nat} {f : Thg → List R4} {W : List WE} {j : Nat} (h : WaitIn H base mr nx f W) (hj : j < W.length) (hxA : Ext nx H nxA HA) {m : R4} {v' : Value} {ob' : Option (Nat × Nat)}
  (hA : AppO Go.Am.e4 4 106 nxA HA W[j].ob (W[j].l ++ [m]) v' nx1 H1 ob') :
  ∃ W', z1U H1 (.map (some mr)) (.int .i64 j) v' = some (.upd mr (.map (W'.map weV) (List.range W'.length) W'.length)) ∧ WaitIn (H1.put mr (.map (W'.map weV) (List.range W'.length) W'.length)) base mr nx1 (zeE f W[j].k (f W[j].k ++ [m])) W' ∧ (∀ i, i < base → H1 i = HA i) ∧ ∀ x ∈ W', ∀ b t, x.ob = some (b, t) → nxA ≤ b ∨ ∃ y ∈ W, ∃ t', y.ob = some (b, t') := by
 have hmr := h.hmr;have hle := hxA.1;have hle1 := hA.le;have hbj := h.blk _ (List.getElem_mem hj)
 have hnm : ∀ b t, ob' = some (b, t) → base ≤ b ∧ b < nx1 ∧ b ≠ mr ∧ (nxA ≤ b ∨ ∃ t', W[j].ob = some (b, t')) := fun b t e => by
  obtain ⟨q1, q2⟩ := hA.blk b t e;rcases q2 with rfl | ⟨t', h'⟩
  ·exact ⟨by omega, q1, by omega, .inl (Nat.le_refl _)⟩
  ·have := hbj _ _ h'; exact ⟨this.1, q1, this.2.2, .inr ⟨t', h'⟩⟩
 have hcell : H1 mr = some (.map (W.map weV) (List.range W.length) W.length) := by
  rw [hA.same mr (by omega) (fun b t e => (hbj b t e).2.2.symm), hxA.2 mr hmr.2];exact h.cell
 refine ⟨W.set j ⟨W[j].k, v', ob', W[j].l ++ [m]⟩, ?_, ?_, fun i hi => hA.same i (by omega) (fun b t e => by have := (hbj b t e).1; omega), fun x hx b t e => ?_⟩
 rotate_left 2
 ·rcases List.mem_or_eq_of_mem_set hx with hx | rfl
  ·exact .inr ⟨x, hx, t, e⟩
  ·rcases (hnm b t e).2.2.2 with hq | ⟨t2, hq⟩
   ·exact .inl hq
   ·exact .inr ⟨_, List.getElem_mem hj, t2, hq⟩
 ·have hes : (W.map weV)[j]? = some (thV W[j].k, W[j].v) := by rw [List.getElem?_map, List.getElem?_eq_getElem hj]; rfl
  unfold z1U;simp only [hcell, zbH _ _ hj, hes, List.length_set, List.map_set];rfl
 ·have hkeys : (W.set j (⟨W[j].k, v', ob', W[j].l ++ [m]⟩ : WE)).map (·.k) = W.map (·.k) := by
   rw [List.map_set];apply List.ext_getElem?;intro i;rw [List.getElem?_set];split
   ·rename_i e
    subst e;rw [List.getElem?_map, List.getElem?_eq_getElem hj];simp [hj]
   ·rfl
  have hget : ∀ (i : Nat) (hi : i < (W.set j (⟨W[j].k, v', ob', W[j].l ++ [m]⟩ : WE)).length), (i = j ∧ (W.set j (⟨W[j].k, v', ob', W[j].l ++ [m]⟩ : WE))[i] = ⟨W[j].k, v', ob', W[j].l ++ [m]⟩) ∨ (i ≠ j ∧ (W.set j (⟨W[j].k, v', ob', W[j].l ++ [m]⟩ : WE))[i] = W[i]'(by simpa using hi)) := fun i hi => by
   rw [List.getElem_set];by_cases e : j = i
   ·exact .inl ⟨e.symm, by rw [if_pos e]⟩
   ·exact .inr ⟨fun e' => e e'.symm, by rw [if_neg e]⟩
  have hpm : ∀ {x : WE} , zch H1 x.ob x.v x.l → (∀ b t, x.ob = some (b, t) → b ≠ mr) → ∀ o, zch (H1.put mr o) x.ob x.v x.l := fun {x} h1 h2 o => OwnRow.same (fun b t e => z5 (h2 b t e)) h1;refine ⟨z6, by rw [hkeys]; exact h.nodup, fun x hx => ?_, fun x hx => ?_, fun t ht => ?_, fun x hx b t e => ?_, fun a c ha hc hac b t b' t' e1 e2 => ?_, by omega⟩
  ·obtain ⟨i, hi, rfl⟩ := List.getElem_of_mem hx
   have hi' : i < W.length := by simpa using hi
   rcases hget i hi with ⟨e, hg⟩ | ⟨e, hg⟩
   ·rw [hg]; exact hpm (x := ⟨W[j].k, v', ob', W[j].l ++ [m]⟩) hA.own (fun b t e => (hnm b t e).2.2.1) _
   ·rw [hg]
    refine hpm ?_ (fun b t e => (h.blk _ (List.getElem_mem hi') b t e).2.2) _;refine OwnRow.same (fun b t e1 => ?_) (h.own _ (List.getElem_mem hi'));have hb := h.blk _ (List.getElem_mem hi') b t e1;rw [hA.same b (by omega) (fun b' t' e2 => h.sep i j hi' hj e b t b' t' e1 e2), hxA.2 b hb.2.1]
  ·obtain ⟨i, hi, rfl⟩ := List.getElem_of_mem hx
   have hi' : i < W.length := by simpa using hi
   rcases hget i hi with ⟨e, hg⟩ | ⟨e, hg⟩
   ·rw [hg]
    simp [zeE, h.val _ (List.getElem_mem hj)]
   ·rw [hg, h.val _ (List.getElem_mem hi')]
    have hne : W[i].k ≠ W[j].k := fun ek => by
     have h1 : (W.map (·.k))[i]'(by simpa using hi') = W[i].k := by simp
     have h2 : (W.map (·.k))[j]'(by simpa using hj) = W[j].k := by simp
     have hp := List.pairwise_iff_getElem.1 h.nodup;rcases Nat.lt_or_gt_of_ne e with hl | hl
     ·exact hp i j (by simpa using hi') (by simpa using hj) hl (by rw [h1, h2]; exact ek)
     ·exact hp j i (by simpa using hj) (by simpa using hi') hl (by rw [h1, h2]; exact ek.symm)
    simp [zeE, hne]
  ·rw [hkeys] at ht
   have hne : t ≠ W[j].k := fun e => ht (by rw [e]; exact List.mem_map.2 ⟨_, List.getElem_mem hj, rfl⟩);simp [zeE, hne, h.out t ht]
  ·obtain ⟨i, hi, rfl⟩ := List.getElem_of_mem hx
   have hi' : i < W.length := by simpa using hi
   rcases hget i hi with ⟨e', hg⟩ | ⟨e', hg⟩
   ·rw [hg] at e; have := hnm b t e; exact ⟨this.1, this.2.1, this.2.2.1⟩
   ·rw [hg] at e; have := h.blk _ (List.getElem_mem hi') b t e; exact ⟨this.1, by omega, this.2.2⟩
  ·have ha' : a < W.length := by simpa using ha
   have hc' : c < W.length := by simpa using hc
   rcases hget a ha with ⟨ea, ga⟩ | ⟨ea, ga⟩ <;> rcases hget c hc with ⟨ec, gc⟩ | ⟨ec, gc⟩
   ·omega
   ·rw [ga] at e1; rw [gc] at e2
    have hb2 := h.blk _ (List.getElem_mem hc') b' t' e2;rcases (hnm b t e1).2.2.2 with hq | ⟨t2, hq⟩
    ·omega
    ·exact h.sep j c hj hc' (fun e => ec e.symm) b t2 b' t' hq e2
   ·rw [ga] at e1; rw [gc] at e2
    have hb2 := h.blk _ (List.getElem_mem ha') b t e1;rcases (hnm b' t' e2).2.2.2 with hq | ⟨t2, hq⟩
    ·omega
    ·exact h.sep a j ha' hj ea b t b' t2 e1 hq
   ·rw [ga] at e1; rw [gc] at e2
    exact h.sep a c ha' hc' hac b t b' t' e1 e2
theorem zaK (W0 : World) {nx : Nat} {H : Heap} {v : Value} {ms : List R4} (hr : RowsAt Go.Am.e4 4 H v ms) (hm : ms.length ≤ 3000) :
  ACalls Tryz.prog W0 58 [v] nx H fun v' nx' H' => ∃ W, v' = .map (some nx) ∧ WaitIn H' nx nx nx' (z4v ms) W ∧ Ext nx H nx' H' := by
 obtain ⟨va, vc, rfl⟩ := hr.slice;refine ze (fn := Tryz.f58) (c := _) Tryz.func58 rfl (fun tm n hn0 htm => ?_);have q0 : tm 0 = .slice va ms.length vc := htm 0;clear htm;replace hn0 : n = 31 := hn0;refine Trip.ok fun hok => ?_;replace hok : ∀ id o, H id = some o → id < nx := hok;refine z9r ?_;refine OpsL.new (by subst_vars; decide) z25 ?_;have hx0 : Ext nx H (nx + 1) (H.put nx (.map [] [] 0)) := zg;have hok0 := zB (o := .map [] [] 0) hok;have hw0 : WaitIn (H.put nx (.map [] [] 0)) nx nx (nx + 1) (z4v []) [] := ⟨z6, List.nodup_nil, fun x h => (by cases h), fun x h => (by cases h), fun _ _ => rfl, fun x h => (by cases h), fun i j hi => by simp at hi, ⟨Nat.le_refl _, Nat.lt_succ_self _⟩⟩;generalize H.put nx (.map [] [] 0) = G at *;refine z8d ?_;refine zu (fun (i : Nat) st => ∃ (tm' : Nat → Value) (nx' : Nat) (H' : Heap) (W : List WE), st = ⟨tm', n, H', nx'⟩ ∧ Ext nx H nx' H' ∧ (∀ id o, H' id = some o → id < nx') ∧ WaitIn H' nx nx nx' (z4v (ms.take i)) W ∧ tm' 3 = .map (some nx) ∧ tm' 9 = .slice va ms.length vc ∧ tm' 10 = .int .i64 ms.length ∧ tm' 11 = .int .i64 i ∧ i ≤ ms.length) (fun i => ms.length - i) 0 ?_ ?_
 ·exact ⟨_, _, _, [], rfl, hx0, hok0, hw0, stp, stp, stp, stp, Nat.zero_le _⟩
 ·clear q0
  rintro i st ⟨tm, nx', H', W, rfl, hx, hok', hw, q3, q9, q10, q11, hi⟩;by_cases hlt : i < ms.length
  ·obtain ⟨p, rfl, g⟩ := z01 (hr.ext hx hok) hlt
   have hst : ms.take (i + 1) = ms.take i ++ [ms[i]] := List.take_succ_eq_append_getElem hlt;have hmr := hw.hmr.2;generalize ms[i] = m at *;refine zcj ?_;refine z7 (za (k := 4) (vs := Go.Am.e4 m) evr (by exact rfl) rfl (by exact rfl) g) ?_;refine OpsL.new (by subst_vars; decide) (zw (l := rep 4 [.int .i64 0]) (by exact rfl)) ?_;refine OpsL.upd (zp (k := 4) (u := .agg (Go.Am.e4 m).toArray) evd evd (by exact rfl) rfl (o := .cells (Go.Am.e4 m) 0 none false (some 106)) (zz (vs := Go.Am.e4 m) z6 rfl rfl)) ?_;obtain ⟨G4, hG4⟩ : ∃ G4, G4 = (H'.put nx' (.cells (rep 4 [.int .i64 0]) 0 none false (some 106))).put nx' (.cells (Go.Am.e4 m) 0 none false (some 106)) := ⟨_, rfl⟩;have hx4 : Ext nx' H' (nx' + 1) G4 := ⟨Nat.le_succ _, fun j hj => by rw [hG4, z5 (by omega), z5 (by omega)]⟩;have hok4 : ∀ id o, G4 id = some o → id < nx' + 1 := by rw [hG4]; exact zL (zB hok') z6
   have hb4 : G4 nx' = some (.cells (Go.Am.e4 m) 0 none false (some 106)) := by rw [hG4, z6]
   first | rw [← hG4] | skip
   clear hG4;refine zdz ?_;refine z7 (za (k := 4) (vs := Go.Am.e4 m) evd (by exact rfl) rfl (by exact rfl) (zx hb4 rfl)) ?_;refine z0g (hf := z6e) (hc := (zf3 W0 m).ok) (h := ?_);rintro v1 n1 H1 ⟨⟨rfl, x1⟩, ok1⟩;have hx1 := (hx.trans hx4).trans x1;have hw1 := (hw.ext hx4).ext x1;have hb1 : H1 nx' = some (.cells (Go.Am.e4 m) 0 none false (some 106)) := (x1.2 nx' (Nat.lt_succ_self _)).trans hb4;have hob1 : ∀ x ∈ W, ∀ b t, x.ob = some (b, t) → b ≠ nx' := fun x hx b t e => by have := hw.blk x hx b t e; omega
   have hle1 := x1.1;have hn2 : (zN m).length = 2 := rfl;clear hw hb4 hx4 x1 hok4 g
   repeat (first | refine z7 (by exact omv) ?_ | refine Trip.block ?_ | (refine OpsL.nil ?_; (change Trip _ _ _ _ _)))
   refine Trip.mono (Q := fun e st => e = .exit 2 ∧ ∃ (tm' : Nat → Value) (nx2 : Nat) (H2 : Heap) (W2 : List WE), st = ⟨tm', n, H2, nx2⟩ ∧ Ext nx H nx2 H2 ∧ (∀ id o, H2 id = some o → id < nx2) ∧ WaitIn H2 nx nx nx2 (z4w (ms.take i) m 2) W2 ∧ tm' 3 = .map (some nx) ∧ tm' 9 = .slice (some p) ms.length vc ∧ tm' 10 = .int .i64 ms.length ∧ tm' 11 = .int .i64 i) ?_ ?_
   ·refine zu (fun (j : Nat) st => ∃ (tm' : Nat → Value) (nx2 : Nat) (H2 : Heap) (W2 : List WE), st = ⟨tm', n, H2, nx2⟩ ∧ Ext nx H nx2 H2 ∧ (∀ id o, H2 id = some o → id < nx2) ∧ WaitIn H2 nx nx nx2 (z4w (ms.take i) m j) W2 ∧ (∀ x ∈ W2, ∀ b t, x.ob = some (b, t) → b ≠ nx') ∧ H2 nx' = some (.cells (Go.Am.e4 m) 0 none false (some 106)) ∧ nx' < nx2 ∧
     tm' 3 = .map (some nx) ∧ tm' 5 = .pointer (some ⟨nx', 0, none⟩) ∧ tm' 16 = .agg (z58 (zN m)).toArray ∧ tm' 17 = .int .i64 j ∧ j ≤ 2 ∧ tm' 9 = .slice (some p) ms.length vc ∧ tm' 10 = .int .i64 ms.length ∧ tm' 11 = .int .i64 i) (fun j => 2 - j) 0 ?_ ?_
    ·exact ⟨_, _, _, W, rfl, hx1, ok1, by rw [zbr]; exact hw1, hob1, hb1, by omega, stp, stp, stp, stp, Nat.zero_le _, stp, stp, stp⟩
    ·clear q3 q9 q10 q11 hw1 hb1 hob1 hx1 ok1
     rintro j st ⟨tm, nx2, H2, W2, rfl, hx2, ok2, hw2, hob2, hb2, hlt2, q3, q5, q16, q17, hj, q9, q10, q11⟩;by_cases hj2 : j < 2
     ·have hp := zaM (zN m) hn2 hj2
      have hms := zbs (ms.take i) m hj2;generalize hte : (zN m)[j]'(by omega) = t at *;refine zg9 ?_;refine zfq ?_;refine z7 (z7h (len := 2) (e := 101) (sz := 2) (v := thV t) evr evr (by exact rfl) (by exact rfl) (by omega) (by omega) (by show z0A _ _ (z58 (zN m)) ((j : Int).toNat * 2) = _; rw [Int.toNat_natCast]; exact hp)) ?_;refine OpsL.new (by subst_vars; decide) (zw (l := rep 2 [.int .i64 0]) krf) ?_;refine OpsL.upd (zp (k := 2) (u := thV t) evd evd (by exact rfl) rfl (o := .cells (z1m t) 0 none false (some 101)) (zz (vs := z1m t) z6 rfl rfl)) ?_;obtain ⟨G5, hG5⟩ : ∃ G5, G5 = (H2.put nx2 (.cells (rep 2 [.int .i64 0]) 0 none false (some 101))).put nx2 (.cells (z1m t) 0 none false (some 101)) := ⟨_, rfl⟩;have hx5 : Ext nx2 H2 (nx2 + 1) G5 := ⟨Nat.le_succ _, fun j hj => by rw [hG5, z5 (by omega), z5 (by omega)]⟩;have ok5 : ∀ id o, G5 id = some o → id < nx2 + 1 := by rw [hG5]; exact zL (zB ok2) z6
      have hb5 : G5 nx2 = some (.cells (z1m t) 0 none false (some 101)) := by rw [hG5, z6]
      first | rw [← hG5] | skip
      clear hG5;have hbm5 : G5 nx' = some (.cells (Go.Am.e4 m) 0 none false (some 106)) := (hx5.2 nx' hlt2).trans hb2
      repeat (first | refine z7 (by exact omv) ?_ | refine zd ?_ | (refine OpsL.nil ?_; (change Trip _ _ _ _ _)))
      refine z7 (za (k := 2) (vs := z1m t) evd (by exact rfl) rfl (by exact rfl) (zx hb5 rfl)) ?_;refine z7 (za (k := 4) (vs := Go.Am.e4 m) evd (by exact rfl) rfl (by exact rfl) (zx hbm5 rfl)) ?_;refine OpsL.new (by subst_vars; decide) (zl (l := [(0, .agg (Go.Am.e4 m).toArray)]) (r := (.slice (some ⟨nx2 + 1, 0, none⟩) 1 1, .new (.cells (Go.Am.e4 m) 4 none false (some 106)))) (by simp only [zt, ASt.ev, z9, ↓reduceIte, reduceIte, Option.some.injEq, Nat.reduceEqDiff, *]) krf) ?_;have hx6 : Ext (nx2 + 1) G5 (nx2 + 1 + 1) (G5.put (nx2 + 1) (.cells (Go.Am.e4 m) 4 none false (some 106))) := zg;have ok6 := zB (o := .cells (Go.Am.e4 m) 4 none false (some 106)) ok5;have g6 : (G5.put (nx2 + 1) (.cells (Go.Am.e4 m) 4 none false (some 106))) (nx2 + 1) = some (.cells (Go.Am.e4 m) 4 none false (some 106)) := z6;generalize G5.put (nx2 + 1) (.cells (Go.Am.e4 m) 4 none false (some 106)) = G6 at *;have hw6 := (hw2.ext hx5).ext hx6;have hmr2 := hw2.hmr.2;obtain ⟨W3, j3, hj3, hk3, he3, hw3, hobs3⟩ := hw6.entry t;have hle6 : nx2 + 1 + 1 = nx2 + 2 := rfl;refine zds (by subst_vars; decide) (z7X evd evr he3) ?_;have hHA : ∀ q, q ≠ nx → (G6.put nx (.map (W3.map weV) (List.range W3.length) W3.length)) q = G6 q := fun q hq => z5 hq;have okA := zL (o := .map (W3.map weV) (List.range W3.length) W3.length) ok6 hw6.cell;generalize G6.put nx (.map (W3.map weV) (List.range W3.length) W3.length) = HA at *
      have hone : RowsAt Go.Am.e4 4 HA (.slice (some ⟨nx2 + 1, 0, none⟩) 1 1) [m] := by
       refine .inr ⟨⟨nx2 + 1, 0, none⟩, 1, rfl, fun q hq => ?_⟩;have : q = 0 := by simpa using hq
       subst this;exact zx ((hHA (nx2 + 1) (by omega)).trans g6) rfl
      have hbmA : HA nx' = some (.cells (Go.Am.e4 m) 0 none false (some 106)) := by rw [hHA nx' (by omega), hx6.2 nx' (by omega)]; exact hbm5
      have hl3 : (W3[j3].l).length ≤ 3001 := by
       have h1 := hw3.val _ (List.getElem_mem hj3);have h2 := zcY (ms.take i) m j W3[j3].k;rw [h1];rw [List.length_take] at h2;omega
      have hblk3 := hw3.blk _ (List.getElem_mem hj3);clear he3 g6 hb5 hbm5
      repeat (first | (refine z7 (by exact zO evr (by exact rfl)) ?_))
      refine zR (bytes := 32) (z := rep 4 [.int .i64 0]) z0r z5c (by omega) (by subst_vars; decide) (hw3.own _ (List.getElem_mem hj3)) hone evr evd (fun b t h => by have := hblk3 b t h; omega) (by exact rfl) (by exact rfl) (by exact rfl) (by exact rfl) (by exact rfl) rfl (by simp; omega) (by omega) ?_;intro v7 nx7 H7 ob7 hA7;obtain ⟨W4, he4, hw4, hf4, hobs4⟩ := hw3.store hj3 Ext.refl hA7;have hle7 := hA7.le;have hc7 : H7 nx = some (.map (W3.map weV) (List.range W3.length) W3.length) := (hA7.same nx (by omega) (fun b t e => (hblk3 b t e).2.2.symm)).trans hw3.cell;have ok7 := hA7.ok (fun b t h => by have := hblk3 b t h; omega) okA
      have hob3 : ∀ b t, W3[j3].ob = some (b, t) → nx' ≠ b := fun b t e => by
       obtain ⟨y, hy, hye⟩ := hobs3 _ (List.getElem_mem hj3) b t e;exact (hob2 y hy b t hye).symm
      have hb7 : H7 nx' = some (.cells (Go.Am.e4 m) 0 none false (some 106)) := (hA7.same nx' (by omega) hob3).trans hbmA;rw [hk3, ← hms] at hw4
      repeat (first | (refine z7 (by exact zO evr (by exact rfl)) ?_))
      refine OpsL.upd (z6r evd evr evd he4) ?_;refine zeC ?_;refine ⟨j + 1, ⟨_, nx7, _, W4, rfl, ⟨by have := hx2.1; omega, fun q hq => ?_⟩, zL ok7 hc7, hw4, fun x hx b t e => ?_, ?_, by omega, stp, stp, stp, stp, by omega, stp, stp, stp⟩, by omega⟩
      ·show Heap.put H7 nx _ q = _
       have := hx2.1;rw [z5 (by omega), hf4 q hq, hHA q (by omega), hx6.2 q (by omega), hx5.2 q (by omega), hx2.2 q hq]
      ·rcases hobs4 x hx b t e with h | ⟨y, hy, t2, hye⟩
       ·omega
       ·obtain ⟨z, hz, hze⟩ := hobs3 y hy b t2 hye
        exact hob2 z hz b t2 hze
      ·show Heap.put H7 nx _ nx' = _
       rw [z5 (by omega)];exact hb7
     ·have h2 : j = 2 := by omega
      subst h2;refine z9t ?_;exact ⟨rfl, _, nx2, H2, W2, rfl, hx2, ok2, hw2, stp, stp, stp, stp⟩
   ·clear q3 q9 q10 q11
    rintro e st ⟨rfl, tm', nx2, H2, W2, rfl, hx2, ok2, hw2, q3, q9, q10, q11⟩
    ((repeat (first | refine zM ?_ | refine zK ?_)); change Trip _ _ _ _ _)
    rw [zcX, ← hst] at hw2
    repeat (first | (refine z7 (by first | exact omv | exact z6w) ?_) | refine zd ?_ | (refine OpsL.nil ?_; (dsimp only)))
    exact ⟨i + 1, ⟨_, nx2, H2, W2, rfl, hx2, ok2, hw2, stp, stp, stp, stp, by omega⟩, by omega⟩
  ·have hin : i = ms.length := by omega
   subst hin;rw [List.take_length] at hw;refine zg8 ?_;refine z9w ?_;exact ⟨.inr rfl, _, zh, W, stp, hw, hx⟩
end Go.Proofs.YteplpegfcpmflaaGreat
namespace Go.Am
inductive ReachT (a : Aut) : Thg → Prop
 | bot : ReachT a (1, 0)
 | init {s : Int} : s ∈ a.init → ReachT a (0, s)
 | step {m : R4} {t : Thg} : m ∈ zP a → (∀ u ∈ zN m, ReachT a u) → t ∈ zV m → ReachT a t
def z6z (a : Aut) : List Thg := (1, 0) :: a.init.map (fun s => ((0, s) : Thg)) ++ (zP a).flatMap zV
structure FindI (a : Aut) (F todo : List Thg) : Prop where
 sound : ∀ t, t ∈ F ∨ t ∈ todo → ReachT a t
 bot : (1, 0) ∈ F ∨ (1, 0) ∈ todo
 init : ∀ s ∈ a.init, (0, s) ∈ F ∨ (0, s) ∈ todo
 closed : ∀ m ∈ zP a, (∀ u ∈ zN m, u ∈ F) → ∀ t ∈ zV m, t ∈ F ∨ t ∈ todo
 nodup : F.Nodup
 uni : ∀ t ∈ todo, t ∈ z6z a
structure FindJ (a : Aut) (F todo : List Thg) (rest : List R4) : Prop where
 sound : ∀ t, t ∈ F ∨ t ∈ todo → ReachT a t
 bot : (1, 0) ∈ F ∨ (1, 0) ∈ todo
 init : ∀ s ∈ a.init, (0, s) ∈ F ∨ (0, s) ∈ todo
 closed : ∀ m ∈ zP a, (∀ u ∈ zN m, u ∈ F) → m ∉ rest → ∀ t ∈ zV m, t ∈ F ∨ t ∈ todo
 nodup : F.Nodup
 uni : ∀ t ∈ todo, t ∈ z6z a
 sub : ∀ m ∈ rest, m ∈ zP a
theorem zay (a : Aut) : FindI a [] ((1, 0) :: a.init.map (fun s => ((0, s) : Thg))) where
 sound t h := by
  rcases h with h | h
  ·cases h
  ·rcases List.mem_cons.1 h with rfl | h
   ·exact .bot
   ·obtain ⟨s, hs, rfl⟩ := List.mem_map.1 h
    exact .init hs
 bot := .inr List.mem_cons_self
 init s hs := .inr (List.mem_cons_of_mem _ (List.mem_map.2 ⟨s, hs, rfl⟩))
 closed m _ h := absurd (h (0, m.1) List.mem_cons_self) (by simp)
 nodup := List.nodup_nil
 uni t h := List.mem_append.2 (.inl h)
theorem FindI.old {a : Aut} {F todo : List Thg} {t : Thg} (h : FindI a F (todo ++ [t])) (ht : t ∈ F) : FindI a F todo := by
 have key : ∀ x, x ∈ F ∨ x ∈ todo ++ [t] → x ∈ F ∨ x ∈ todo := fun x hx => by
  rcases hx with hx | hx
  ·exact .inl hx
  ·rcases List.mem_append.1 hx with hx | hx
   ·exact .inr hx
   ·rw [List.mem_singleton] at hx; subst hx; exact .inl ht
 exact ⟨fun x hx => h.sound x (hx.imp id fun q => List.mem_append.2 (.inl q)), key _ h.bot, fun s hs => key _ (h.init s hs), fun m hm hu x hx => key _ (h.closed m hm hu x hx), h.nodup, fun x hx => h.uni x (List.mem_append.2 (.inl hx))⟩
theorem FindI.fresh {a : Aut} {F todo : List Thg} {t : Thg} (h : FindI a F (todo ++ [t])) (ht : t ∉ F) : FindJ a (F ++ [t]) todo (z4v (zP a) t) := by
 have key : ∀ x, x ∈ F ∨ x ∈ todo ++ [t] → x ∈ F ++ [t] ∨ x ∈ todo := fun x hx => by
  rcases hx with hx | hx
  ·exact .inl (List.mem_append.2 (.inl hx))
  ·rcases List.mem_append.1 hx with hx | hx
   ·exact .inr hx
   ·exact .inl (List.mem_append.2 (.inr hx))
 refine ⟨fun x hx => h.sound x ?_, key _ h.bot, fun s hs => key _ (h.init s hs), fun m hm hu hr x hx => ?_, ?_, fun x hx => h.uni x (List.mem_append.2 (.inl hx)), fun m hm => (List.mem_filter.1 hm).1⟩
 ·rcases hx with hx | hx
  ·rcases List.mem_append.1 hx with hx | hx
   ·exact .inl hx
   ·exact .inr (List.mem_append.2 (.inr hx))
  ·exact .inr (List.mem_append.2 (.inl hx))
 ·have htm : t ∉ zN m := fun hh => hr (List.mem_filter.2 ⟨hm, by simpa using hh⟩)
  refine key _ (h.closed m hm (fun u hum => ?_) x hx);rcases List.mem_append.1 (hu u hum) with q | q
  ·exact q
  ·rw [List.mem_singleton] at q; subst q; exact absurd hum htm
 ·rw [List.nodup_append]
  refine ⟨h.nodup, by simp, fun x hx y hy => ?_⟩;rw [List.mem_singleton] at hy;subst hy;exact fun e => ht (e ▸ hx)
theorem FindJ.yes {a : Aut} {F todo : List Thg} {m : R4} {rest : List R4} (h : FindJ a F todo (m :: rest)) (hu : ∀ u ∈ zN m, u ∈ F) : FindJ a F (todo ++ zV m) rest := by
 have hm := h.sub m List.mem_cons_self;have key : ∀ x, x ∈ F ∨ x ∈ todo → x ∈ F ∨ x ∈ todo ++ zV m := fun x hx => hx.imp id fun q => List.mem_append.2 (.inl q);refine ⟨fun x hx => ?_, key _ h.bot, fun s hs => key _ (h.init s hs), fun m' hm' hu' hr x hx => ?_, h.nodup, fun x hx => ?_, fun m' hm' => h.sub m' (List.mem_cons_of_mem _ hm')⟩
 ·rcases hx with hx | hx
  ·exact h.sound x (.inl hx)
  ·rcases List.mem_append.1 hx with hx | hx
   ·exact h.sound x (.inr hx)
   ·exact .step hm (fun u hum => h.sound u (.inl (hu u hum))) hx
 ·by_cases e : m' = m
  ·subst e; exact .inr (List.mem_append.2 (.inr hx))
  ·exact key _ (h.closed m' hm' hu' (fun q => (List.mem_cons.1 q).elim e hr) x hx)
 ·rcases List.mem_append.1 hx with hx | hx
  ·exact h.uni x hx
  ·exact List.mem_append.2 (.inr (List.mem_flatMap.2 ⟨m, hm, hx⟩))
theorem FindJ.no {a : Aut} {F todo : List Thg} {m : R4} {rest : List R4} (h : FindJ a F todo (m :: rest)) (hu : ¬ ∀ u ∈ zN m, u ∈ F) : FindJ a F todo rest :=
 ⟨h.sound, h.bot, h.init, fun m' hm' hu' hr x hx => h.closed m' hm' hu' (fun q => (List.mem_cons.1 q).elim (fun e => hu (e ▸ hu')) hr) x hx, h.nodup, h.uni, fun m' hm' => h.sub m' (List.mem_cons_of_mem _ hm')⟩
theorem FindJ.end {a : Aut} {F todo : List Thg} (h : FindJ a F todo []) : FindI a F todo := ⟨h.sound, h.bot, h.init, fun m hm hu x hx => h.closed m hm hu (by simp) x hx, h.nodup, h.uni⟩
theorem FindI.all {a : Aut} {F : List Thg} (h : FindI a F []) (t : Thg) : t ∈ F ↔ ReachT a t := by
 have key : ∀ x, x ∈ F ∨ x ∈ ([] : List Thg) → x ∈ F := fun x hx => hx.resolve_right (by simp);refine ⟨fun q => h.sound t (.inl q), fun q => ?_⟩
 induction q with
 | bot => exact key _ h.bot
 | init hs => exact key _ (h.init _ hs)
 | step hm _ hx ih => exact key _ (h.closed _ hm ih _ hx)
def muF (a : Aut) (F todo : List Thg) : Nat := ((z6z a).filter fun t => decide (t ∉ F)).length * (2 * (zP a).length + 1) + todo.length
theorem za0 {l : List Thg} {F : List Thg} {t : Thg} (ht : t ∈ l) (hF : t ∉ F) : (l.filter fun x => decide (x ∉ F ++ [t])).length + 1 ≤ (l.filter fun x => decide (x ∉ F)).length := by
 induction l with
 | nil => cases ht
 | cons y l ih =>
  have hle : ∀ l : List Thg, (l.filter fun x => decide (x ∉ F ++ [t])).length ≤ (l.filter fun x => decide (x ∉ F)).length := fun l => by
   induction l with
   | nil => simp
   | cons z l ih =>
    rw [List.filter_cons, List.filter_cons];by_cases h1 : z ∈ F
    ·rw [if_neg (by simp [h1]), if_neg (by simp [h1])]; exact ih
    ·by_cases h2 : z = t
     ·rw [if_neg (by simp [h2]), if_pos (by simp [h1])]; rw [List.length_cons]; omega
     ·rw [if_pos (by simp [h1, h2]), if_pos (by simp [h1])]; rw [List.length_cons, List.length_cons]; omega
  rw [List.filter_cons, List.filter_cons];rcases List.mem_cons.1 ht with rfl | hm
  ·rw [if_neg (by simp), if_pos (by simpa using hF), List.length_cons]
   have := hle l;omega
  ·have := ih hm
   by_cases h1 : y ∈ F
   ·rw [if_neg (by simp [h1]), if_neg (by simp [h1])]; exact this
   ·by_cases h2 : y = t
    ·rw [if_neg (by simp [h2]), if_pos (by simp [h1]), List.length_cons]; omega
    ·rw [if_pos (by simp [h1, h2]), if_pos (by simp [h1]), List.length_cons, List.length_cons]; omega
theorem zfJ (a : Aut) (F todo : List Thg) (t : Thg) : muF a F todo + 1 = muF a F (todo ++ [t]) := by unfold muF; rw [List.length_append, List.length_singleton]; omega
theorem zfK {a : Aut} {F todo todo' : List Thg} {t : Thg} (ht : t ∈ z6z a) (hF : t ∉ F) (hl : todo'.length ≤ todo.length + 2 * (zP a).length) : muF a (F ++ [t]) todo' + 1 ≤ muF a F (todo ++ [t]) := by
 have h1 := za0 ht hF;unfold muF
 have h2 : ((z6z a).filter fun x => decide (x ∉ F ++ [t])).length * (2 * (zP a).length + 1) + (2 * (zP a).length + 1) ≤ ((z6z a).filter fun x => decide (x ∉ F)).length * (2 * (zP a).length + 1) := by
  have := Nat.mul_le_mul_right (2 * (zP a).length + 1) h1;rw [Nat.add_mul, Nat.one_mul] at this;exact this
 rw [List.length_append, List.length_singleton];omega
end Go.Am
namespace Go.Proofs.YteplpegfcpmflaaGreat
open Go.RowKit Go.Am
theorem WaitIn.framed {H H' : Heap} {base mr nx nx' : Nat} {f : Thg → List R4} {W : List WE} (h : WaitIn H base mr nx f W) (hF : ∀ j, base ≤ j → j < nx → H' j = H j) (hle : nx ≤ nx') : WaitIn H' base mr nx' f W :=
 ⟨by rw [hF mr h.hmr.1 h.hmr.2]; exact h.cell, h.nodup, fun x hm => OwnRow.same (fun b t e => by have := h.blk x hm b t e; exact hF b this.1 this.2.1) (h.own x hm), h.val, h.out, fun x hm b t e => by have := h.blk x hm b t e; omega, h.sep, by have := h.hmr; omega⟩
theorem WaitIn.tells {H : Heap} {base mr nx : Nat} {f : Thg → List R4} {W : List WE} (h : WaitIn H base mr nx f W) (t : Thg) : ∃ r, ∀ (H' : Heap) (nx' : Nat), WaitIn H' base mr nx' f W → z1O Tryz.prog H' 96 (.map (some mr)) (thV t) false = some r ∧ RowsAt Go.Am.e4 4 H' r (f t) := by
 by_cases hin : t ∈ W.map (·.k)
 ·obtain ⟨x, hx, hxk⟩ := List.mem_map.1 hin
  obtain ⟨j, hj, hje⟩ := List.getElem_of_mem hx;have hk : W[j].k = t := by rw [hje]; exact hxk
  refine ⟨W[j].v, fun H' nx' h' => ?_⟩;obtain ⟨c1, c2, c3⟩ := z8n t H';have hmo : z4z H' (.map (some mr)) = some (W.map weV) := by simp only [z4z, h'.cell]
  have hf := zcN H' W 0 j hj h'.nodup;rw [hk] at hf;refine ⟨?_, ?_⟩
  ·unfold z1O
   simp only [Tryz.underlying96, hmo, show z6F Tryz.prog 98 = some (.slice none 0 0) from rfl, c1, show (Tryz.prog.underlying 101).isSome = true from rfl, and_self, if_true, hf];rfl
  ·rw [← hk, ← h'.val _ (List.getElem_mem hj)]
   exact (h'.own _ (List.getElem_mem hj)).at z0r
 ·refine ⟨.slice none 0 0, fun H' nx' h' => ?_⟩
  obtain ⟨c1, c2, c3⟩ := z8n t H';have hmo : z4z H' (.map (some mr)) = some (W.map weV) := by simp only [z4z, h'.cell]
  refine ⟨?_, ?_⟩
  ·unfold z1O
   simp only [Tryz.underlying96, hmo, show z6F Tryz.prog 98 = some (.slice none 0 0) from rfl, c1, show (Tryz.prog.underlying 101).isSome = true from rfl, and_self, if_true, zcO H' t W 0 hin];rfl
  ·rw [h'.out t hin]; exact .inl ⟨0, rfl, rfl⟩
end Go.Proofs.YteplpegfcpmflaaGreat
namespace Go.Proofs.YteplpegfcpmflaaGreat
open Go.RowKit Go.Am
attribute [local irreducible] aop OpsL Trip zC z36 OpsK OpsR
abbrev z8m (H : Heap) (ob : Option (Nat × Nat)) (v : Value) (l : List Thg) : Prop := OwnOf z1m 2 101 H ob v l
theorem zbS : Am.z0F Tryz.prog 25 := ⟨Tryz.f25, Tryz.func25, by kernel_rfl, by kernel_rfl⟩
def z47 (a : Aut) : List Thg := (1, 0) :: a.init.map (fun s => ((0, s) : Thg))
theorem z41 {a : Aut} (hn : AutLen a) : (zP a).length ≤ 3000 := by
 have h1 := hn.opens;have h2 := hn.closes;have h3 := hn.inners;simp only [zP, List.length_append, List.length_map];omega
theorem zd1 {H : Heap} {b : Nat} : z0P Tryz.prog H 108 (.pointer (some ⟨b, 0, none⟩)) none none none = some (.slice (some ⟨b, 0, none⟩) 2 2) := by
 unfold z0P;simp only [Tryz.underlying108, show z1r Tryz.prog 101 = some 2 from rfl, if_true];rfl
theorem zdN {H : Heap} {b : Nat} {p : List Thg} {q : Option TypeId} (hp : p.length = 2) (h : H b = some (.cells (z58 p) 0 none false q)) : RowsAt z1m 2 H (.slice (some ⟨b, 0, none⟩) p.length 2) p := by
 refine .inr ⟨⟨b, 0, none⟩, 2, rfl, fun j hj => ?_⟩;have hf := z5T z1C p j hj;have hl := z03 z1C p;unfold z0L;simp only [h];rw [if_pos ⟨trivial, by unfold z58; rw [hl]; omega⟩];unfold z58;rw [Nat.zero_add, hf]
theorem z77 {α : Type} {enc : α → List Value} {sz : Nat} (hk : ∀ x, (enc x).length = sz) {H : Heap} {b t : Nat} {el : TypeId} {l : List α} {rest : List Value} {i : Nat} (hH : H b = some (.cells (l.flatMap enc ++ rest) sz (some t) false (some el))) (hi : i < l.length) : z0L H ⟨b, 0 + i * sz, some t⟩ sz = some (enc l[i]) := by
 have hfl := z03 hk l;have hle : (i + 1) * sz ≤ l.length * sz := Nat.mul_le_mul_right sz hi;rw [Nat.add_mul, Nat.one_mul] at hle;unfold z0L;simp only [hH];rw [if_pos ⟨trivial, by rw [List.length_append, hfl]; omega⟩, Nat.zero_add, List.drop_append_of_le_length (by rw [hfl]; omega), List.take_append_of_le_length (by rw [List.length_drop, hfl]; omega), z5T hk l i hi]
theorem zfI {H : Heap} {b t : Nat} {l : List Thg} {x : Thg} {v : Value} (h : z8m H (some (b, t)) v (l ++ [x])) : z8m H (some (b, t)) (.slice (some ⟨b, 0 + 0 * 2, some t⟩) (l.length - 0) (l.length - 0)) l := by
 obtain ⟨_, _, rest, ho⟩ := h;refine ⟨by simp, by rw [z03 z1C], z1m x ++ rest, ?_⟩;rw [ho, List.flatMap_append, List.append_assoc];simp
theorem zi2 (W0 : World) {nx : Nat} {H : Heap} {a : Aut} {vi vf vo vc vn : Value} (ha : AutIn H a vi vf vo vc vn) (hn : AutLen a) (hi0 : a.init ≠ []) (hmu : muF a [] (z47 a) ≤ 100000) :
  ACalls Tryz.prog W0 25 [.agg (zA a vi vf vo vc vn).toArray] nx H fun v nx' H' => ∃ (m : Nat) (F : List Thg), v = .map (some m) ∧ H' m = some (.map (F.map fun t => (thV t, .agg #[])) (List.range F.length) F.length) ∧ F.Nodup ∧ (∀ t, t ∈ F ↔ ReachT a t) ∧ nx ≤ m ∧ m < nx' ∧ Ext nx H nx' H' := by
 obtain ⟨ai, ci, rfl⟩ := ha.init.slice;obtain ⟨af, cf, rfl⟩ := ha.final.slice;obtain ⟨ao, co, rfl⟩ := ha.opens.slice;obtain ⟨ac, cc, rfl⟩ := ha.closes.slice;obtain ⟨an, cn, rfl⟩ := ha.inners.slice;refine ze (fn := Tryz.f25) (c := _) Tryz.func25 rfl (fun tm n hn0 htm => ?_);have q0 : tm 0 = .agg (zA a (.slice ai a.init.length ci) (.slice af a.final.length cf) (.slice ao a.opens.length co) (.slice ac a.closes.length cc) (.slice an a.inners.length cn)).toArray := htm 0;clear htm;replace hn0 : n = 75 := hn0;refine Trip.ok fun hok => ?_;replace hok : ∀ id o, H id = some o → id < nx := hok;refine z5o ?_;refine OpsL.new (by subst_vars; decide) (zW evr) ?_;have hx0 : Ext nx H (nx + 1) (H.put nx (.cells (Value.agg (zA a (.slice ai a.init.length ci) (.slice af a.final.length cf) (.slice ao a.opens.length co) (.slice ac a.closes.length cc) (.slice an a.inners.length cn)).toArray).cells.toList 0 none false (some 30))) := zg;have gx : (H.put nx (.cells (Value.agg (zA a (.slice ai a.init.length ci) (.slice af a.final.length cf) (.slice ao a.opens.length co) (.slice ac a.closes.length cc) (.slice an a.inners.length cn)).toArray).cells.toList 0 none false (some 30))) nx = some (.cells (zA a (.slice ai a.init.length ci) (.slice af a.final.length cf) (.slice ao a.opens.length co) (.slice ac a.closes.length cc) (.slice an a.inners.length cn)) 0 none false (some 30)) := z6;have ok0 := zB (o := .cells (Value.agg (zA a (.slice ai a.init.length ci) (.slice af a.final.length cf) (.slice ao a.opens.length co) (.slice ac a.closes.length cc) (.slice an a.inners.length cn)).toArray).cells.toList 0 none false (some 30)) hok;generalize H.put nx (.cells (Value.agg (zA a (.slice ai a.init.length ci) (.slice af a.final.length cf) (.slice ao a.opens.length co) (.slice ac a.closes.length cc) (.slice an a.inners.length cn)).toArray).cells.toList 0 none false (some 30)) = G at *;refine z9r ?_;refine OpsL.new (by subst_vars; decide) z25 ?_;have hx1 : Ext (nx + 1) G (nx + 1 + 1) (G.put (nx + 1) (.map [] [] 0)) := zg;have gm : (G.put (nx + 1) (.map [] [] 0)) (nx + 1) = some (.map [] [] 0) := z6;have ok1 := zB (o := .map [] [] 0) ok0;generalize G.put (nx + 1) (.map [] [] 0) = G1 at *;have gx1 := (hx1.2 nx (by omega)).trans gx;have ha1 := ha.ext (hx0.trans hx1) hok
 repeat fail
 refine z7 (za (k := 7) (vs := zA a (.slice ai a.init.length ci) (.slice af a.final.length cf) (.slice ao a.opens.length co) (.slice ac a.closes.length cc) (.slice an a.inners.length cn)) evd (by exact rfl) rfl (by exact rfl) (zx gx1 rfl)) ?_;refine z0g (hf := z6f) (hc := (zf4 W0 ha1 hn).ok) (h := ?_);rintro v1 n1 H1 ⟨⟨ob1, w1, x1, b1⟩, ok1'⟩;refine z0g (hf := z4N) (hc := (zaK W0 (w1.at z0r) (z41 hn)).ok) (h := ?_);rintro v2 n2 H2 ⟨⟨W, rfl, hw, x2⟩, ok2⟩;have hle1 := x1.1;have hle2 := x2.1;have gm2 : H2 (nx + 1) = some (.map [] [] 0) := by rw [x2.2 _ (by omega), x1.2 _ (by omega)]; exact gm
 have gx2 : H2 nx = some (.cells (zA a (.slice ai a.init.length ci) (.slice af a.final.length cf) (.slice ao a.opens.length co) (.slice ac a.closes.length cc) (.slice an a.inners.length cn)) 0 none false (some 30)) := by rw [x2.2 _ (by omega), x1.2 _ (by omega)]; exact gx1
 have ha2 := ha1.ext (x1.trans x2) ok1;have hxH : Ext nx H n2 H2 := ((hx0.trans hx1).trans x1).trans x2;clear gx gx1 gm w1 b1 ha ha1 x1 x2 hx0 hx1 ok0 ok1 ok1';refine z9r ?_;refine z7 (zy (v := thV (1, 0)) (l := [(0, .int .i64 1), (1, .int .i64 0)]) (by simp only [zt, ASt.ev, z9, ↓reduceIte, reduceIte, Option.some.injEq, Nat.reduceEqDiff, zY, zk, *]) krf) ?_;refine OpsL.new (by subst_vars; decide) (zl (l := [(0, thV (1, 0))]) (r := (.slice (some ⟨n2, 0, none⟩) 1 1, .new (.cells (z1m (1, 0)) 2 none false (some 101)))) (by simp only [zt, ASt.ev, z9, ↓reduceIte, reduceIte, Option.some.injEq, Nat.reduceEqDiff, *]) krf) ?_;have x3 : Ext n2 H2 (n2 + 1) (H2.put n2 (.cells (z1m (1, 0)) 2 none false (some 101))) := zg;have gt : (H2.put n2 (.cells (z1m (1, 0)) 2 none false (some 101))) n2 = some (.cells (z1m (1, 0)) 2 none false (some 101)) := z6;have ok3 := zB (o := .cells (z1m (1, 0)) 2 none false (some 101)) ok2;generalize H2.put n2 (.cells (z1m (1, 0)) 2 none false (some 101)) = G3 at *;have gx3 := (x3.2 nx (by omega)).trans gx2;have gm3 := (x3.2 (nx + 1) (by omega)).trans gm2;have ha3 := ha2.ext x3 ok2;have hw3 := hw.ext x3;have ci0 : zb G3 ⟨nx, 0 + 2, none⟩ (.slice ai a.init.length ci) := by rw [Nat.zero_add]; exact z8 gx3 rfl
 have hli := hn.init;clear gx2 gm2 hw ha2 ok2;refine zhO ?_;refine Trip.mono (Q := fun e st => e = .exit 0 ∧ ∃ (tm' : Nat → Value) (nx' : Nat) (H' : Heap) (ob : Option (Nat × Nat)) (v : Value), st = ⟨tm', n, H', nx'⟩ ∧ Ext (n2 + 1) G3 nx' H' ∧ (∀ id o, H' id = some o → id < nx') ∧ z8m H' ob v (z47 a) ∧ (∀ b t, ob = some (b, t) → n2 + 1 ≤ b ∧ b < nx') ∧ tm' 3 = .map (some (nx + 1)) ∧ tm' 4 = .map (some n1) ∧ tm' 5 = v) ?_ ?_
 ·refine zu (fun (i : Nat) st => ∃ (tm' : Nat → Value) (nx' : Nat) (H' : Heap) (ob : Option (Nat × Nat)) (v : Value), st = ⟨tm', n, H', nx'⟩ ∧ Ext (n2 + 1) G3 nx' H' ∧ (∀ id o, H' id = some o → id < nx') ∧ (i = 0 → v = .slice (some ⟨n2, 0, none⟩) 1 1 ∧ ob = none) ∧ (0 < i → z8m H' ob v ((1, 0) :: (a.init.take i).map (fun s => ((0, s) : Thg)))) ∧ (∀ b t, ob = some (b, t) → n2 + 1 ≤ b ∧ b < nx') ∧ tm' 3 = .map (some (nx + 1)) ∧ tm' 4 = .map (some n1) ∧ tm' 5 = v ∧ tm' 21 = .slice ai a.init.length ci ∧ tm' 22 = .int .i64 a.init.length ∧ tm' 23 = .int .i64 i ∧ i ≤ a.init.length) (fun i => a.init.length - i) 0 ?_ ?_
  ·exact ⟨_, _, _, none, _, rfl, Ext.refl, ok3, fun _ => ⟨rfl, rfl⟩, fun h => absurd h (by omega), fun _ _ h => (by cases h), stp, stp, stp, stp, stp, stp, Nat.zero_le _⟩
  ·rintro i st ⟨tm, nx', H', ob, v, rfl, hx, hok', hz, hp, hob, q3, q4, q5, q21, q22, q23, hi⟩
   by_cases hlt : i < a.init.length
   ·obtain ⟨p, hp0, g⟩ := z0k (ha3.init.ext hx ok3) hlt
    subst hp0;have hst : (a.init.take (i + 1)).map (fun s => ((0, s) : Thg)) = (a.init.take i).map (fun s => ((0, s) : Thg)) ++ [(0, a.init[i])] := by rw [List.take_succ_eq_append_getElem hlt, List.map_append]; rfl
    generalize a.init[i] = s at *;have hle := hx.1;refine zeD ?_;refine z7 (zy (v := thV (0, s)) (l := [(0, .int .i64 0), (1, .int .i64 s)]) (by simp only [zt, ASt.ev, z9, ↓reduceIte, reduceIte, Option.some.injEq, Nat.reduceEqDiff, zY, zk, *]) krf) ?_;refine OpsL.new (by subst_vars; decide) (zl (l := [(0, thV (0, s))]) (r := (.slice (some ⟨nx', 0, none⟩) 1 1, .new (.cells (z1m (0, s)) 2 none false (some 101)))) (by simp only [zt, ASt.ev, z9, ↓reduceIte, reduceIte, Option.some.injEq, Nat.reduceEqDiff, *]) krf) ?_;have x5 : Ext nx' H' (nx' + 1) (H'.put nx' (.cells (z1m (0, s)) 2 none false (some 101))) := zg;have ok5 := zB (o := .cells (z1m (0, s)) 2 none false (some 101)) hok'
    have hone : RowsAt z1m 2 (H'.put nx' (.cells (z1m (0, s)) 2 none false (some 101))) (.slice (some ⟨nx', 0, none⟩) 1 1) [((0, s) : Thg)] := by
     refine .inr ⟨⟨nx', 0, none⟩, 1, rfl, fun j hj => ?_⟩;have : j = 0 := by simpa using hj
     subst this;exact z0j (by show 0 + 2 ≤ 2; decide)
    generalize H'.put nx' (.cells (z1m (0, s)) 2 none false (some 101)) = G5 at *;by_cases hi1 : i = 0
    ·obtain ⟨rfl, rfl⟩ := hz hi1
     subst hi1;have hg : G5 n2 = some (.cells (z1m (1, 0)) 2 none false (some 101)) := by rw [x5.2 n2 (by omega), hx.2 n2 (by omega)]; exact gt
     have hsrc : z2T G5 2 (.slice (some ⟨nx', 0, none⟩) 1 1) none = some (1, z1m (0, s)) := by have := z7A z1C (by omega) hone; simpa using this
     refine OpsL.new (by subst_vars; decide) (z3P (b := n2) (k := 1) (m := 1) (sz := 2) (bytes := 16) (z := [.int .i64 0, .int .i64 0]) evd evd hg rfl hsrc (z7F _) (by decide) (by exact rfl) (by exact rfl) (by exact rfl) (by exact rfl) (by exact rfl) (by exact rfl) rfl (by decide) (by decide)) ?_;refine zg7 ?_;refine ⟨0 + 1, ⟨_, _, _, some (nx' + 1, nx' + 1), _, rfl, ⟨by omega, fun j hj => ?_⟩, zB ok5, fun h => absurd h (by omega), fun _ => ⟨rfl, by simp [hst, z1m], [], ?_⟩, fun b t h => by cases h; omega, stp, stp, stp, stp, stp, stp, by omega⟩, by omega⟩
     ·rw [z5 (by omega), x5.2 j (by omega), hx.2 j hj]
     ·rw [z6, hst]; simp
    ·have hown := hp (by omega)
     have hzl : ((1, 0) :: (a.init.take i).map (fun s => ((0, s) : Thg))).length ≤ 2000 := by rw [List.length_cons, List.length_map, List.length_take]; omega
     have hst2 : ((1, 0) : Thg) :: (a.init.take (i + 1)).map (fun s => ((0, s) : Thg)) = ((1, 0) :: (a.init.take i).map (fun s => ((0, s) : Thg))) ++ [(0, s)] := by rw [hst]; rfl
     clear hst hp hz;generalize ((1, 0) :: (a.init.take i).map (fun s => ((0, s) : Thg))) = zs at *;refine zR (bytes := 16) (z := rep 2 [.int .i64 0]) z1C z7F (by omega) (by subst_vars; decide) (OwnOf.ext x5 (fun b t h => (hob b t h).2) hown) hone evd evd (fun b t h => by have := (hob b t h).2; omega) (by exact rfl) (by exact rfl) (by exact rfl) (by exact rfl) (by exact rfl) rfl (by simp; omega) (by omega) ?_;intro v8 nx8 H8 ob8 hA8;refine zg7 ?_;refine ⟨i + 1, ⟨_, nx8, H8, ob8, v8, rfl, ⟨by have := hA8.le; omega, fun j hj => ?_⟩, hA8.ok (fun b t h => by have := (hob b t h).2; omega) ok5, fun h => absurd h (by omega), fun _ => ?_, fun b t h => ?_, stp, stp, stp, stp, stp, stp, by omega⟩, by omega⟩
     ·rw [hA8.same j (by omega) (fun b t h => by have := (hob b t h).1; omega), x5.2 j (by omega), hx.2 j hj]
     ·rw [hst2]; exact hA8.own
     ·obtain ⟨q1, q2⟩ := hA8.blk b t h
      refine ⟨?_, q1⟩;rcases q2 with rfl | ⟨t', h'⟩
      ·omega
      ·exact (hob _ _ h').1
   ·have hin : i = a.init.length := by omega
    subst hin;have hpos : 0 < a.init.length := List.length_pos_iff.2 hi0;have hown := hp hpos;rw [List.take_length] at hown;refine z9t ?_;exact ⟨rfl, _, _, _, ob, v, rfl, hx, hok', hown, hob, stp, stp, stp⟩
 ·rintro e st ⟨rfl, tm', n4, H4, ob4, v4, rfl, hx4, ok4, hown4, hob4, q3, q4, q5⟩
  refine z6W ?_;have hle4 := hx4.1;have hFr : ∀ j, j < n2 + 1 → j ≠ nx + 1 → H4 j = G3 j := fun j hj _ => hx4.2 j hj;have hc4 : H4 (nx + 1) = some (.map (([] : List Thg).map fun t => (thV t, .agg #[])) (List.range ([] : List Thg).length) ([] : List Thg).length) := (hx4.2 _ (by omega)).trans gm3;clear gt ci0 hx4
  repeat (first | refine Trip.seq ?_ | refine Trip.block ?_)
  refine zu (fun (p : List Thg × List Thg) st => ∃ (tm' : Nat → Value) (nx' : Nat) (H' : Heap) (ob : Option (Nat × Nat)) (v : Value), st = ⟨tm', n, H', nx'⟩ ∧ n2 + 1 ≤ nx' ∧ (∀ j, j < n2 + 1 → j ≠ nx + 1 → H' j = G3 j) ∧ (∀ id o, H' id = some o → id < nx') ∧ H' (nx + 1) = some (.map (p.1.map fun t => (thV t, .agg #[])) (List.range p.1.length) p.1.length) ∧ z8m H' ob v p.2 ∧ (∀ b t, ob = some (b, t) → n2 + 1 ≤ b ∧ b < nx') ∧ FindI a p.1 p.2 ∧ muF a p.1 p.2 ≤ 100000 ∧ tm' 3 = .map (some (nx + 1)) ∧ tm' 4 = .map (some n1) ∧ tm' 5 = v) (fun p => muF a p.1 p.2) ([], z47 a) ?_ ?_
  ·exact ⟨_, _, _, ob4, v4, rfl, hle4, hFr, ok4, hc4, hown4, hob4, zay a, hmu, stp, stp, stp⟩
  ·clear q3 q4 q5 hFr hc4 hown4 hob4 ok4 hle4
   rintro ⟨F, todo⟩ st ⟨tm, nx', H', ob, v, rfl, hle, hFr, hok', hcell, hown, hob, hI, hM, q3, q4, q5⟩;dsimp only at hcell hown hI hM;rcases List.eq_nil_or_concat todo with rfl | ⟨t0, t, htd⟩
   ·have hor := hown.at z1C
    obtain ⟨va, vc, rfl⟩ := hor.slice;refine z6t ?_;refine z18 ?_ (c := by simp);refine z5K ?_;refine z9w ?_;refine ⟨.inr rfl, _, zh, nx + 1, F, stp, hcell, hI.nodup, hI.all, by omega, by omega, by have := hxH.1; omega, fun j hj => ?_⟩;rw [hFr j (by omega) (by omega), x3.2 j (by omega), hxH.2 j hj]
   ·rw [List.concat_eq_append] at htd
    subst htd;have hml : t0.length + 1 ≤ 100000 := by unfold muF at hM; rw [List.length_append, List.length_singleton] at hM; omega
    cases ob with
    | none => obtain ⟨_, _, h2⟩ := hown; simp at h2
    | some bt =>
     obtain ⟨b, tg⟩ := bt;have hor := hown.at z1C;have hpop := zfI hown;obtain ⟨hv, _, rest, hH⟩ := hown;have hl1 : (t0 ++ [t]).length = t0.length + 1 := by simp
     rw [hl1] at hv;subst hv;have hbb := hob b tg rfl
     have hg : z0L H' ⟨b, 0 + (((t0.length + 1 : Nat) : Int) - 1).toNat * 2, some tg⟩ 2 = some (z1m t) := by
      rw [show (((t0.length + 1 : Nat) : Int) - 1).toNat = t0.length by omega];have := z77 z1C hH (i := t0.length) (by simp);simpa using this
     have hsl : ∀ GG : Heap, GG b = H' b → z0P Tryz.prog GG 102 (.slice (some ⟨b, 0, some tg⟩) (t0.length + 1) (t0.length + 1)) none (some (.int .i64 (((t0.length + 1 : Nat) : Int) - 1))) none = some (.slice (some ⟨b, 0 + 0 * 2, some tg⟩) (t0.length - 0) (t0.length - 0)) := fun GG hGG => by
      have := zQ (P := Tryz.prog) (H := GG) (t := 102) (el := 101) (sz := 2) (a := ⟨b, 0, some tg⟩) (len := t0.length + 1) (cap := t0.length + 1) (l := 0) (h := t0.length) (tg := tg) (lo := none) (hi := some (.int .i64 (((t0.length + 1 : Nat) : Int) - 1))) (by exact rfl) (by exact rfl) (hGG.trans hH) rfl rfl rfl (.inl ⟨rfl, rfl⟩) (.inr ⟨.i64, by congr 2; omega⟩) (Nat.zero_le _) (Nat.le_succ _)
      rwa [if_neg (by omega)] at this
     have hm1 := zfJ a F t0 t;have hun : t ∈ z6z a := hI.uni t (List.mem_append.2 (.inr (List.mem_singleton.2 rfl)));refine zi9 ?_;refine OpsL.new (by subst_vars; decide) (zw (l := (rep 2 [.int .i64 0])) krf) ?_;refine OpsL.upd (zp (k := 2) (u := thV t) evd evr (by exact rfl) rfl (o := .cells (z1m t) 0 none false (some 101)) (zz (vs := (z1m t)) z6 rfl rfl)) ?_;obtain ⟨G5, hG5⟩ : ∃ G0, G0 = (H'.put nx' (.cells (rep 2 [.int .i64 0]) 0 none false (some 101))).put nx' (.cells (z1m t) 0 none false (some 101)) := ⟨_, rfl⟩;have xG5 : Ext nx' H' (nx' + 1) G5 := ⟨Nat.le_succ _, fun j hj => by rw [hG5, z5 (by omega), z5 (by omega)]⟩;have kG5 : ∀ id o, G5 id = some o → id < nx' + 1 := by rw [hG5]; exact zL (zB hok') z6
     have bG5 : G5 nx' = some (.cells (z1m t) 0 none false (some 101)) := by rw [hG5, z6]
     first | rw [← hG5] | skip
     clear hG5
     repeat (first | (refine z7 (by first | exact omv | exact zeJ | exact z1s) ?_) | refine Trip.seq ?_ | refine zd ?_ | (refine OpsL.nil ?_; (change Trip _ _ _ _ _)))
     refine z7 (zS (r := .slice (some ⟨b, 0 + 0 * 2, some tg⟩) (t0.length - 0) (t0.length - 0)) (a := none) (b := some (.int .i64 (((t0.length + 1 : Nat) : Int) - 1))) (c := none) evd rfl (by simp only [z0G, ASt.ev, z9, ↓reduceIte, reduceIte, Option.some.injEq, Nat.reduceEqDiff, Option.map_some, *]) rfl (hsl _ (xG5.2 b (by omega)))) ?_;have hF5 : FoundAt G5 (.map (some (nx + 1))) F := ⟨nx + 1, _, _, rfl, (xG5.2 _ (by omega)).trans hcell⟩;refine z4Q ?_;refine z7 (za (k := 2) (vs := z1m t) evd (by exact rfl) rfl (by exact rfl) (zx bG5 rfl)) ?_;refine z7 (z08 evd evr (hF5.told t)) ?_;refine zhN ?_;refine OpsL.new (by subst_vars; decide) (zw (l := []) krf) ?_;refine OpsL.upd (zp (k := 0) (u := .agg #[]) evd evr (by exact rfl) rfl (o := .cells [] 0 none false (some 103)) (zz (vs := []) z6 rfl rfl)) ?_;obtain ⟨G6, hG6⟩ : ∃ G0, G0 = (G5.put (nx' + 1) (.cells [] 0 none false (some 103))).put (nx' + 1) (.cells [] 0 none false (some 103)) := ⟨_, rfl⟩;have xG6 : Ext (nx' + 1) G5 ((nx' + 1) + 1) G6 := ⟨Nat.le_succ _, fun j hj => by rw [hG6, z5 (by omega), z5 (by omega)]⟩;have kG6 : ∀ id o, G6 id = some o → id < (nx' + 1) + 1 := by rw [hG6]; exact zL (zB kG5) z6
     have bG6 : G6 (nx' + 1) = some (.cells [] 0 none false (some 103)) := by rw [hG6, z6]
     first | rw [← hG6] | skip
     clear hG6;have hc6 : G6 (nx + 1) = some (.map (F.map fun t => (thV t, .agg #[])) (List.range F.length) F.length) := by rw [xG6.2 _ (by omega), xG5.2 _ (by omega)]; exact hcell
     have hF6 : ∀ j, j < n2 + 1 → j ≠ nx + 1 → G6 j = G3 j := fun j h1 h2 => by rw [xG6.2 _ (by omega), xG5.2 _ (by omega)]; exact hFr j h1 h2
     have hpop6 := OwnOf.ext (xG5.trans xG6) (fun b' t' h => by cases h; exact hbb.2) hpop;have hb6 : G6 nx' = some (.cells (z1m t) 0 none false (some 101)) := (xG6.2 _ (Nat.lt_succ_self _)).trans bG5;clear hg hsl hF5 bG6 bG5 hor hpop;by_cases htF : t ∈ F
     ·simp only [htF, decide_true]
      refine z4Q ?_;refine z05 ?_
      repeat (first | (refine Trip.exit ?_; ((repeat (refine zM ?_)); dsimp only)))
      exact ⟨(F, t0), ⟨_, _, _, some (b, tg), _, rfl, by omega, hF6, kG6, hc6, hpop6, fun b' t' h => by cases h; omega, hI.old htF, by show muF a F t0 ≤ 100000; omega, stp, stp, stp⟩, by show muF a F t0 < muF a F (t0 ++ [t]); omega⟩
     ·have hJ0 := hI.fresh htF
      simp only [htF, decide_false];refine z4Q ?_;refine zU ?_;refine zci ?_;refine z7 (za (k := 2) (vs := z1m t) evd (by exact rfl) rfl (by exact rfl) (zx hb6 rfl)) ?_;refine z7 (zy (v := .agg #[]) (l := []) (by simp only [zt]) krf) ?_;have hupd : zG Tryz.prog G6 53 (.map (some (nx + 1))) (thV t) (.agg #[]) = some (.upd (nx + 1) (.map ((F ++ [t]).map fun t => (thV t, .agg #[])) (List.range (F ++ [t]).length) (F ++ [t]).length)) := by rw [FoundAt.put hc6 htF]; simp [List.range_succ]
      refine OpsL.upd (z0V evd evr evd hupd) ?_;have hG7 : ∀ j, j ≠ nx + 1 → (G6.put (nx + 1) (.map ((F ++ [t]).map fun t => (thV t, .agg #[])) (List.range (F ++ [t]).length) (F ++ [t]).length)) j = G6 j := fun j hj => z5 hj;have hc7 : (G6.put (nx + 1) (.map ((F ++ [t]).map fun t => (thV t, .agg #[])) (List.range (F ++ [t]).length) (F ++ [t]).length)) (nx + 1) = some (.map ((F ++ [t]).map fun t => (thV t, .agg #[])) (List.range (F ++ [t]).length) (F ++ [t]).length) := z6;have ok7 := zL (o := .map ((F ++ [t]).map fun t => (thV t, .agg #[])) (List.range (F ++ [t]).length) (F ++ [t]).length) kG6 hc6;generalize G6.put (nx + 1) (.map ((F ++ [t]).map fun t => (thV t, .agg #[])) (List.range (F ++ [t]).length) (F ++ [t]).length) = G7 at *;have hF7 : ∀ j, j < n2 + 1 → j ≠ nx + 1 → G7 j = G3 j := fun j h1 h2 => by rw [hG7 j h2]; exact hF6 j h1 h2
      have hown7 : z8m G7 (some (b, tg)) (.slice (some ⟨b, 0 + 0 * 2, some tg⟩) (t0.length - 0) (t0.length - 0)) t0 := OwnRow.same (fun b' t' h => by cases h; exact hG7 b (by omega)) hpop6;have hb7 : G7 nx' = some (.cells (z1m t) 0 none false (some 101)) := (hG7 nx' (by omega)).trans hb6;obtain ⟨r, htell⟩ := hw3.tells t;have hwf : ∀ (H9 : Heap) (nx9 : Nat), n2 + 1 ≤ nx9 → (∀ j, j < n2 + 1 → j ≠ nx + 1 → H9 j = G3 j) → WaitIn H9 n1 n1 nx9 (z4v (zP a)) W := fun H9 nx9 h1 h2 => hw3.framed (fun j h3 h4 => h2 j h4 (by omega)) h1;have hrl : (z4v (zP a) t).length ≤ (zP a).length := List.length_filter_le _ _;have hml2 := z41 hn;clear hb6 hpop6 hc6 hF6 hupd hG7 kG6 xG5 xG6 kG5;refine z7i ?_;refine z7 (za (k := 2) (vs := z1m t) evd (by exact rfl) rfl (by exact rfl) (zx hb7 rfl)) ?_;refine z7 (z08 evd evr (htell G7 _ (hwf G7 (nx' + 1 + 1) (by omega) hF7)).1) ?_;obtain ⟨ra, rc, rfl⟩ := (htell G7 _ (hwf G7 (nx' + 1 + 1) (by omega) hF7)).2.slice;generalize z4v (zP a) t = rs at *
      repeat (first | (refine z7 (by first | exact omv | exact z1s) ?_) | refine Trip.block ?_ | (refine OpsL.nil ?_; (change Trip _ _ _ _ _)))
      refine Trip.mono (Q := fun e st => e = .exit 4 ∧ ∃ (tm' : Nat → Value) (nx3 : Nat) (H3 : Heap) (ob3 : Option (Nat × Nat)) (v3 : Value) (td : List Thg), st = ⟨tm', n, H3, nx3⟩ ∧ n2 + 1 ≤ nx3 ∧ (∀ j, j < n2 + 1 → j ≠ nx + 1 → H3 j = G3 j) ∧ (∀ id o, H3 id = some o → id < nx3) ∧ H3 (nx + 1) = some (.map ((F ++ [t]).map fun t => (thV t, .agg #[])) (List.range (F ++ [t]).length) (F ++ [t]).length) ∧ z8m H3 ob3 v3 td ∧ (∀ b t, ob3 = some (b, t) → n2 + 1 ≤ b ∧ b < nx3) ∧ FindJ a (F ++ [t]) td [] ∧ td.length ≤ t0.length + 2 * rs.length ∧ tm' 3 = .map (some (nx + 1)) ∧ tm' 4 = .map (some n1) ∧ tm' 5 = v3) ?_ ?_
      ·refine zu (fun (i : Nat) st => ∃ (tm' : Nat → Value) (nx3 : Nat) (H3 : Heap) (ob3 : Option (Nat × Nat)) (v3 : Value) (td : List Thg), st = ⟨tm', n, H3, nx3⟩ ∧ n2 + 1 ≤ nx3 ∧ (∀ j, j < n2 + 1 → j ≠ nx + 1 → H3 j = G3 j) ∧ (∀ id o, H3 id = some o → id < nx3) ∧ H3 (nx + 1) = some (.map ((F ++ [t]).map fun t => (thV t, .agg #[])) (List.range (F ++ [t]).length) (F ++ [t]).length) ∧ z8m H3 ob3 v3 td ∧ (∀ b t, ob3 = some (b, t) → n2 + 1 ≤ b ∧ b < nx3) ∧ FindJ a (F ++ [t]) td (rs.drop i) ∧ td.length ≤ t0.length + 2 * i ∧ tm' 3 = .map (some (nx + 1)) ∧ tm' 4 = .map (some n1) ∧ tm' 5 = v3 ∧ tm' 59 = .slice ra rs.length rc ∧ tm' 60 = .int .i64 rs.length ∧ tm' 61 = .int .i64 i ∧ i ≤ rs.length) (fun i => rs.length - i) 0 ?_ ?_
       ·exact ⟨_, _, _, some (b, tg), _, t0, rfl, by omega, hF7, ok7, hc7, hown7, fun b' t' h => by cases h; omega, hJ0, by omega, stp, stp, stp, stp, stp, stp, Nat.zero_le _⟩
       ·clear q3 q4 q5 hF7 ok7 hc7 hown7 hb7
        rintro i st ⟨tm, nx3, H3, ob3, v3, td, rfl, hle3, hF3, ok3', hc3, hown3, hob3, hJ, htl, q3, q4, q5, q59, q60, q61, hi⟩;by_cases hlt : i < rs.length
        ·obtain ⟨p, hp0, g⟩ := z01 (htell H3 nx3 (hwf H3 nx3 hle3 hF3)).2 hlt
         rw [List.drop_eq_getElem_cons hlt] at hJ;generalize rs[i] = m at *;refine zdx ?_;refine z0c ?_;subst hp0;refine zfY ?_;refine z05 ?_
         repeat (first | refine z7 (by exact z4s) ?_ | refine Trip.seq ?_ | refine zd ?_ | refine Trip.block ?_ | (refine Trip.skip ?_; (change Trip _ _ _ _ _)))
         refine z7 (za (k := 4) (vs := Go.Am.e4 m) evr (by exact rfl) rfl (by exact rfl) g) ?_;refine OpsL.new (by subst_vars; decide) (zw (l := (rep 4 [.int .i64 0])) krf) ?_;refine OpsL.upd (zp (k := 4) (u := .agg (Go.Am.e4 m).toArray) evd evd (by exact rfl) rfl (o := .cells (Go.Am.e4 m) 0 none false (some 106)) (zz (vs := (Go.Am.e4 m)) z6 rfl rfl)) ?_;obtain ⟨G8, hG8⟩ : ∃ G0, G0 = (H3.put nx3 (.cells (rep 4 [.int .i64 0]) 0 none false (some 106))).put nx3 (.cells (Go.Am.e4 m) 0 none false (some 106)) := ⟨_, rfl⟩;have xG8 : Ext nx3 H3 (nx3 + 1) G8 := ⟨Nat.le_succ _, fun j hj => by rw [hG8, z5 (by omega), z5 (by omega)]⟩;have kG8 : ∀ id o, G8 id = some o → id < nx3 + 1 := by rw [hG8]; exact zL (zB ok3') z6
         have bG8 : G8 nx3 = some (.cells (Go.Am.e4 m) 0 none false (some 106)) := by rw [hG8, z6]
         first | rw [← hG8] | skip
         clear hG8;refine z7i ?_;refine z7 (za (k := 4) (vs := Go.Am.e4 m) evd (by exact rfl) rfl (by exact rfl) (zx bG8 rfl)) ?_;have hf8 : FoundAt G8 (.map (some (nx + 1))) (F ++ [t]) := ⟨nx + 1, _, _, rfl, (xG8.2 _ (by omega)).trans hc3⟩;refine OpsL.c2 (hf := z9b) (hc := (zfU W0 m hf8).ok) (h := ?_);rintro vA nA HA ⟨⟨rfl, xA⟩, okA⟩;have hxA := xG8.trans xA;have hbA : HA nx3 = some (.cells (Go.Am.e4 m) 0 none false (some 106)) := (xA.2 _ (Nat.lt_succ_self _)).trans bG8;have hlA := hxA.1;have hcA : HA (nx + 1) = some (.map ((F ++ [t]).map fun t => (thV t, .agg #[])) (List.range (F ++ [t]).length) (F ++ [t]).length) := (hxA.2 _ (by omega)).trans hc3;have hFA : ∀ j, j < n2 + 1 → j ≠ nx + 1 → HA j = G3 j := fun j h1 h2 => by rw [hxA.2 j (by omega)]; exact hF3 j h1 h2
         have hownA := OwnOf.ext hxA (fun b t h => (hob3 b t h).2) hown3;clear bG8 xG8 kG8 xA hf8 g hown3;by_cases hall : ∀ u ∈ zN m, u ∈ F ++ [t]
         ·rw [decide_eq_true hall]
          refine z6V ?_;refine zdx ?_;refine z7 (za (k := 4) (vs := Go.Am.e4 m) evd (by exact rfl) rfl (by exact rfl) (zx hbA rfl)) ?_;refine z0g (hf := zad) (hc := (zh8 W0 m).ok) (h := ?_);rintro vB nB HB ⟨⟨rfl, xB⟩, okB⟩;have hlB := xB.1;refine OpsL.new (by subst_vars; decide) (zw (l := (rep 4 [.int .i64 0])) krf) ?_;refine OpsL.upd (zp (k := 4) (u := .agg (z58 (zV m)).toArray) evd evd (by exact rfl) rfl (o := .cells (z58 (zV m)) 0 none false (some 108)) (zz (vs := (z58 (zV m))) z6 rfl rfl)) ?_;obtain ⟨G9, hG9⟩ : ∃ G0, G0 = (HB.put nB (.cells (rep 4 [.int .i64 0]) 0 none false (some 108))).put nB (.cells (z58 (zV m)) 0 none false (some 108)) := ⟨_, rfl⟩;have xG9 : Ext nB HB (nB + 1) G9 := ⟨Nat.le_succ _, fun j hj => by rw [hG9, z5 (by omega), z5 (by omega)]⟩;have kG9 : ∀ id o, G9 id = some o → id < nB + 1 := by rw [hG9]; exact zL (zB okB) z6
          have bG9 : G9 nB = some (.cells (z58 (zV m)) 0 none false (some 108)) := by rw [hG9, z6]
          first | rw [← hG9] | skip
          clear hG9
          repeat (first | refine z7 (by exact omv) ?_ | refine zd ?_ | (refine OpsL.nil ?_; (change Trip _ _ _ _ _)))
          refine z7 (zS (r := .slice (some ⟨nB, 0, none⟩) 2 2) (a := none) (b := none) (c := none) evd rfl rfl rfl zd1) ?_;have hxG := xB.trans xG9;have hgl : (zV m).length = 2 := rfl;refine zR (us := zV m) (bytes := 16) (z := rep 2 [.int .i64 0]) z1C z7F (by omega) (by subst_vars; decide) (OwnOf.ext hxG (fun b t h => by have := hob3 b t h; omega) hownA) (zdN rfl bG9) evd evd (fun b t h => by have := hob3 b t h; omega) (by exact rfl) (by exact rfl) (by exact rfl) (by exact rfl) (by exact rfl) rfl (by omega) (by omega) ?_;intro v9 nx9 H9 ob9 hA9;have hl9 := hA9.le;have hf9 : ∀ j, j < n2 + 1 → H9 j = HA j := fun j hj => by rw [hA9.same j (by omega) (fun b t h => by have := (hob3 b t h).1; omega), hxG.2 j (by omega)]
          refine zg7 ?_;refine ⟨i + 1, ⟨_, nx9, H9, ob9, v9, td ++ zV m, rfl, by omega, fun j h1 h2 => by rw [hf9 j h1]; exact hFA j h1 h2, hA9.ok (fun b t h => by have := hob3 b t h; omega) kG9, (hf9 _ (by omega)).trans hcA, hA9.own, fun b t h => ?_, hJ.yes hall, by rw [List.length_append]; omega, stp, stp, stp, stp, stp, stp, by omega⟩, by omega⟩;obtain ⟨q1, q2⟩ := hA9.blk b t h;refine ⟨?_, q1⟩;rcases q2 with rfl | ⟨t', h'⟩
          ·omega
          ·exact (hob3 _ _ h').1
         ·rw [decide_eq_false hall]
          refine z7j ?_;refine zbc ?_;exact ⟨i + 1, ⟨_, nA, HA, ob3, v3, td, rfl, by omega, hFA, okA, hcA, hownA, fun b t h => by have := hob3 b t h; omega, hJ.no hall, by omega, stp, stp, stp, stp, stp, stp, by omega⟩, by omega⟩
        ·have hin : i = rs.length := by omega
         subst hin;rw [List.drop_length] at hJ;refine z9t ?_;exact ⟨rfl, _, nx3, H3, ob3, v3, td, rfl, hle3, hF3, ok3', hc3, hown3, hob3, hJ, htl, stp, stp, stp⟩
      ·clear q3 q4 q5
       rintro e st ⟨rfl, tm', nx3, H3, ob3, v3, td, rfl, hle3, hF3, ok3', hc3, hown3, hob3, hJ, htl, q3, q4, q5⟩;refine zdL ?_;have hnew := zfK hun htF (show td.length ≤ t0.length + 2 * (zP a).length by omega)
       repeat fail
       exact ⟨(F ++ [t], td), ⟨_, nx3, H3, ob3, v3, rfl, hle3, hF3, ok3', hc3, hown3, hob3, hJ.end, by show muF a (F ++ [t]) td ≤ 100000; omega, stp, stp, stp⟩, by show muF a (F ++ [t]) td < muF a F (t0 ++ [t]); omega⟩
end Go.Proofs.YteplpegfcpmflaaGreat
namespace Go.Am
open Go.RowKit
section
variable {P : Program} {W0 : World}
def zgL (st : ASt) (o : Oper) : Option Value :=
 match o.op with
 | .next it false => st.ev it
 | _ => none
theorem zcd {ops : Array Oper} {i : Nat} {l : List Nat} {o : Oper} {st : ASt} {it : Value} {rs : List (Value × Eff)} {Q : ASt → Prop} (ho : ops[i]? = some o) (hw : z10 ops st o = true) (hd : z1c st o = true)
  (hop : zgL st o = some it) (hn : z6Z st.H it = some rs) (h : ∀ r ∈ rs, Ops P W0 ops l (st.put o.dst r.1 r.2) Q) : Ops P W0 ops (i :: l) st Q := by
 intro ρ C a w hr hs;simp only [wpOpsIn, ho, z1S hs ops o, hw, if_true];refine ⟨fun _ _ => trivial, ?_⟩;unfold zgL at hop;split at hop
 case h_2 => cases hop
 rename_i x hx;obtain ⟨⟨v, e⟩, hrr, hsnd⟩ := z9i (P := P) (ty := o.type) hs.rel hn (hs.ev x it hop);obtain ⟨n, v', w', C', hrun, hnn, hR, hS, hv⟩ := hsnd.toN;have hs' := hs.put (dst := o.dst) (z0U hd) hR hS hv
 have hnext : wpOpsIn (rf ρ) 0 P ops (Post W0 C st a.defers fun e s => e = .normal ∧ Q s) l (a.put o.dst v') w' :=
  z7M (st1 := st.put o.dst v e) (df := a.defers) hS rfl (.of_eq (z0T a o.dst v')) l ops _ w' (h (v, e) hrr ρ C' _ w' (hr.next hS) hs')
 have hrun' : (o.semAt (rf ρ).round a.eval).run P w = .ok n w' := by
  rw [Oper.semAt_eq _ a.eval o (fun d hd => by rw [hx] at hd; cases hd)];simp only [execOp, hx];exact hrun
 rw [hrun'];rcases hnn with rfl | ⟨rfl, rfl⟩
 ·exact hnext
 ·exact hnext
end
end Go.Am
namespace Go.Am
open Go.RowKit
section
variable {P : Program} {W0 : World}
variable {ops : Array Oper} {op : Op} {type : TypeId} {pos : String} {after : Array Edge} {l : List Oper} {tm : Nat → Value} {n nx : Nat} {H : Heap}
theorem zc6 {id : Nat} {d : Tmp} {x : Operand} {it : Value} {rs : List (Value × Eff)} {Q : AExit → ASt → Prop} (hl : ops.toList = ⟨some d, .next x false, type, pos, after, none⟩ :: l) (hd : d < n)
  (hx : ASt.ev ⟨tm, n, H, nx⟩ x = some it) (hn : z6Z H it = some rs) (h : ∀ r ∈ rs, OpsL P W0 ops l ⟨z9 tm (some d) r.1, n, r.2.H nx H, r.2.nx nx⟩ (Q .normal)) : Trip P W0 (.region id ops false) ⟨tm, n, H, nx⟩ Q := by
 refine Trip.region ?_
 have h0 : ops[0]? = some ⟨some d, .next x false, type, pos, after, none⟩ := by
  have : ops.toList[0]? = some ⟨some d, .next x false, type, pos, after, none⟩ := by rw [hl]; rfl
  simpa using this
 have hs : List.range ops.size = 0 :: List.range' 1 l.length := by
  rw [← Array.length_toList, hl, List.range_eq_range', List.length_cons, List.range'_succ]
 rw [hs];exact zcd h0 rfl (by simp [z1c, hd]) hx hn fun r hr => zb8 l 1 _ (by rw [hl]; rfl) (h r hr)
theorem zbG {es : List (Value × Value)} : ∀ (s k : Nat) (i : Nat) (kv : Value × Value), i < k → es[i]? = some kv → (es.zip (List.range' s k)).find? (fun x => x.2 == s + i) = some (kv, s + i) := by
 induction es with
 | nil => intro s k i kv _ h; simp at h
 | cons e es ih =>
  intro s k i kv hi h;cases k with
  | zero => omega
  | succ k =>
   rw [List.range'_succ, List.zip_cons_cons];cases i with
   | zero =>
    simp only [List.getElem?_cons_zero, Option.some.injEq] at h;subst h;simp
   | succ i =>
    rw [List.find?_cons_of_neg (by simp), show s + (i + 1) = (s + 1) + i by omega];exact ih (s + 1) k i kv (by omega) (by simpa using h)
theorem z7Q {es : List (Value × Value)} {k : Nat} {x : (Value × Value) × Nat} (h : x ∈ es.zip (List.range k)) : x.2 < k ∧ es[x.2]? = some x.1 := by
 obtain ⟨i, hi, he⟩ := List.getElem_of_mem h;rw [List.getElem_zip] at he;subst he;rw [List.length_zip, List.length_range] at hi;simp only [List.getElem_range];exact ⟨by omega, List.getElem?_eq_getElem (by omega)⟩
theorem zby {r m k : Nat} {seen : List Nat} {es : List (Value × Value)} (hr : H r = some (.miter (some m) k seen k)) (hm : H m = some (.map es (List.range k) k)) (hl : es.length = k) :
  ∃ rs, z6Z H (.pointer (some ⟨r, 0, none⟩)) = some rs ∧ ∀ x ∈ rs, (x = (.tuple #[.bool false], .none) ∧ ∀ i, i < k → i ∈ seen) ∨
   ∃ (i : Nat) (key val : Value), i < k ∧ i ∉ seen ∧ es[i]? = some (key, val) ∧ x = (.tuple #[.bool true, key, val], .upd r (.miter (some m) k (seen ++ [i]) k)) := by
 have hc : (((List.range k).all fun b => decide (b < k)) && (seen.isEmpty || (List.range k).isEmpty || (List.range k).any fun b => decide (b < k))) = true := by
  rw [Bool.and_eq_true];refine ⟨List.all_eq_true.2 fun b hb => by simpa using hb, ?_⟩;cases k with
  | zero => simp
  | succ k =>
   rw [Bool.or_eq_true];exact .inr (List.any_eq_true.2 ⟨0, by simp, by simp⟩)
 have hz : ∀ i, i < k → ∃ kv, (kv, i) ∈ es.zip (List.range k) ∧ es[i]? = some kv := fun i hi => by
  refine ⟨es[i]'(by omega), ?_, List.getElem?_eq_getElem (by omega)⟩;refine List.mem_iff_getElem.2 ⟨i, by rw [List.length_zip, List.length_range]; omega, ?_⟩;rw [List.getElem_zip, List.getElem_range]
 unfold z6Z;simp only [hr, hm, hc, if_true];cases hf : (es.zip (List.range k)).filter fun x => !seen.contains x.2 with
 | nil =>
  refine ⟨_, rfl, fun x hx => .inl ⟨List.mem_singleton.1 hx, fun i hi => ?_⟩⟩;obtain ⟨kv, h1, _⟩ := hz i hi;by_cases hs : i ∈ seen
  ·exact hs
  ·have : (kv, i) ∈ (es.zip (List.range k)).filter fun x => !seen.contains x.2 := List.mem_filter.2 ⟨h1, by simpa using hs⟩
   rw [hf] at this;cases this
 | cons y ys =>
  refine ⟨_, rfl, fun x hx => ?_⟩;obtain ⟨z, hz1, rfl⟩ := List.mem_map.1 hx;rw [← hf] at hz1;obtain ⟨h1, h2⟩ := List.mem_filter.1 hz1;obtain ⟨h3, h4⟩ := z7Q h1;exact .inr ⟨z.2, z.1.1, z.1.2, h3, by simpa using h2, h4, rfl⟩
theorem zbM {r m k i : Nat} {seen : List Nat} {es : List (Value × Value)} {key val : Value} (hr : H r = some (.miter (some m) k (seen ++ [i]) k)) (hm : H m = some (.map es (List.range k) k)) (hi : i < k) (he : es[i]? = some (key, val)) :
  z70 H (.pointer (some ⟨r, 0, none⟩)) = some (.tuple #[key, val]) := by
 unfold z70;have := zbG 0 k i (key, val) hi he;rw [Nat.zero_add, ← List.range_eq_range'] at this;simp only [hr, hm, if_true, List.getLast?_append, List.getLast?_singleton, Option.some_or, this, Option.map_some]
variable {dst : Option Tmp} {guard : Option (Nat × Bool)} {ev : Operand → Option Value}
theorem zdn {x : Operand} {v r : Value} (hx : ev x = some v) (h : z70 H v = some r) : aop P H nx ev ⟨dst, .entry x, type, pos, after, guard⟩ = some (r, .none) := by simp [aop, hx, h]
theorem zbZ {x : Operand} {t k e : TypeId} {m : Nat} {es : List (Value × Value)} {bs : List Nat} {clk : Nat} (hx : ev x = some (.map (some m))) (hu : P.underlying t = some (.map k e)) (hm : H m = some (.map es bs clk)) :
  aop P H nx ev ⟨dst, .range t x, type, pos, after, guard⟩ = some (.pointer (some ⟨nx, 0, none⟩), .new (.miter (some m) clk [] clk)) := by simp [aop, hx, zaC, hu, hm]
end
end Go.Am

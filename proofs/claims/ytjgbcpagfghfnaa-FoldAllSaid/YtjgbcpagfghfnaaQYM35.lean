import Derived.Test.YtjgbcpagfghfnaaQYM34
import Derived.Test.YtjgbcpagfghfnaaQYM15
set_option linter.unusedVariables false
set_option linter.unusedSimpArgs false
set_option linter.unnecessarySimpa false
namespace Go.Am
open Go.RowKit
def WK (B nx : Nat) (_ : Nat) (σ : CH) (v : Value) (W : List (List Int)) : Prop := ∀ H2, (∀ i, i < B → H2 i = σ.H i) → (∀ i, nx ≤ i → i < σ.nx → σ.C i ≠ .inn → H2 i = σ.H i) → L2At H2 v W
theorem WK.keep {B nx k : Nat} {S : List Co} {σ τ : CH} {v : Value} {W : List (List Int)} (hc : Chg S σ τ) (hS : ∀ c ∈ S, c = .inn) (hB : ∀ i, i < B → i < σ.nx ∧ σ.C i = .old) (h : WK B nx k σ v W) : WK B nx k τ v W := fun H2 h1 h2 => by
 refine h H2 (fun i hi => ?_) (fun i h3 h4 h5 => ?_)
 ·rw [h1 i hi];exact hc.same (fun q => by have := hS _ q; cases this) (hB i hi).1 (hB i hi).2
 ·rw [h2 i h3 (Nat.lt_of_lt_of_le h4 hc.1) (by rw [hc.hue h4]; exact h5)];exact (hc.2 i h4).2 fun q => h5 (hS _ q)
theorem WK.of {B nx k : Nat} {σ τ : CH} {v : Value} {W : List (List Int)} (hle : nx ≤ σ.nx) (hn : ∀ i, σ.nx ≤ i → i < τ.nx → τ.C i ≠ .inn) (h : Stab B σ.nx τ.nx τ.H (fun H2 => L2At H2 v W)) : WK B nx k τ v W := fun H2 h1 h2 => h H2 h1 fun i h3 h4 => h2 i (Nat.le_trans hle h3) h4 (hn i h3 h4)
theorem z0N {σ : CH} {nx' : Nat} {H' : Heap} (c : Co) (h : Ext σ.nx σ.H nx' H') : ∃ τ : CH, nx' = τ.nx ∧ H' = τ.H ∧ Chg [] σ τ ∧ ∀ i, σ.nx ≤ i → τ.C i = c :=
 ⟨⟨nx', fun i => if i < σ.nx then σ.C i else c, H'⟩, rfl, rfl, ⟨h.1, fun i hi => ⟨if_pos hi, fun _ => h.2 i hi⟩⟩, fun i hi => if_neg (by show ¬ i < σ.nx; omega)⟩
def OwnOrC {α : Type} (enc : α → List Value) (f : α → Value) (el : TypeId) (c : Co) (σ : CH) (v : Value) (l : List α) : Prop := OwnC enc el c σ v l ∨ PlainC el c σ v (l.map f)
theorem OwnOrC.keep {α : Type} {enc : α → List Value} {f : α → Value} {el : TypeId} {c : Co} {S : List Co} {σ τ : CH} {v : Value} {l : List α} (h : Chg S σ τ) (hc : c ∉ S) (ho : OwnOrC enc f el c σ v l) : OwnOrC enc f el c τ v l := by
 rcases ho with ho | ho
 ·exact .inl (ho.keep h hc)
 ·exact .inr (ho.keep h hc)
section
attribute [local irreducible] aop OpsL Trip zt z1X z1E OpsR OpsQ
variable {P : Program} {W0 : World} {σ : CH} {n : Nat} {ops : Array Oper} {l : List Oper} {tm : Nat → Value} {QQ : ASt → Prop} {d : Tmp} {type : TypeId} {pos : String} {after : Array Edge}
theorem zdh {α : Type} {enc : α → List Value} {f : α → Value} {bytes : Nat} {z : List Value} {el st xt : TypeId} {c : Co} {v u : Value} {zs us : List α} {x y : Operand} (hf : ∀ x, enc x = [f x]) (hk : ∀ x, (enc x).length = 1) (h1 : ∀ x, (enc x).all (·.oneCell') = true) (h : OwnOrC enc f el c σ v zs) (hu : RowsAt enc 1 σ.H u us) (hus : us.length ≠ 0)
  (hst : P.underlying st = some (.slice el)) (hxt : P.underlying xt = some (.slice el)) (hsz : z1W P el = some 1) (hby : z0u P el = some bytes) (hz : z0Y P el = some z) (hzl : z.length = 1) (hle : zs.length + us.length ≤ 1000000) (hbl : bytes ≤ 1000)
  (hx : ASt.ev ⟨tm, n, σ.H, σ.nx⟩ x = some v) (hy : ASt.ev ⟨tm, n, σ.H, σ.nx⟩ y = some u) (hd : d < n)
  (hc : ∀ v' τ, OwnC enc el c τ v' (zs ++ us) → Chg [c] σ τ → OpsL P W0 ops l ⟨zb tm (some d) v', n, τ.H, τ.nx⟩ QQ) :
  OpsL P W0 ops (⟨some d, .call ⟨.builtin .append, #[x, y], #[st, xt]⟩, type, pos, after, none⟩ :: l) ⟨tm, n, σ.H, σ.nx⟩ QQ := by
 rcases h with h | h
 ·exact zT hk h1 h hu hst hxt hsz hby hz hzl hle hbl hx hy hd hc
 ·obtain ⟨b, rfl, hb⟩ := h;have hm : (2 * (zs.length + us.length) + 192) * bytes ≤ (2 * 1000000 + 192) * 1000 := Nat.mul_le_mul (by omega) hbl;rw [List.length_map] at hx;refine zo c (z77 (b := b) (k := zs.length) (m := us.length) (sz := 1) (bytes := bytes) (el := el) (u := u) (cs := zs.map f) (xs := us.flatMap enc) (z := z) (xd := .slice el) hx hy hb.2.2 (by simp) (z7Z hk (by omega) hu) (by rw [List.all_eq_true]; intro q hq; obtain ⟨a, _, ha⟩ := List.mem_flatMap.1 hq; exact List.all_eq_true.1 (h1 a) q ha) hus hst hxt rfl hsz hby hz hzl (by omega) (by omega)) hd ?_;intro τ hn x2;refine hc _ τ ⟨some (σ.nx, σ.nx), ⟨by rw [List.length_append], ?_, [], ?_⟩, fun b' t e => ?_⟩ (x2.mono (by simp))
  ·rw [z52 hk]
  ·rw [List.append_nil, List.flatMap_append, z2h hf, z2h hf, ← List.map_append];have := hn.2.2;rw [z2h hf, ← List.map_append] at this;exact this
  ·cases e;exact ⟨hn.1, hn.2.1⟩
end
end Go.Am
namespace Go.Proofs.Ytjgbcpagfghfnaa
open Go.Am Go.RowKit
attribute [local irreducible] aop OpsL Trip zt z1X z1E OpsR OpsQ
theorem z4j : Am.z1G Try.prog 51 := ⟨Try.f51, Try.func51, by kernel_rfl, by kernel_rfl⟩
set_option maxRecDepth 20000 in
set_option maxHeartbeats 16000000 in
theorem za5 (W0 : World) {nx B0 : Nat} {H G0 : Heap} {m : Mo} {V : MoV} (hm0 : MoIn G0 m V) (ok0 : ∀ id o, G0 id = some o → id < B0) (hx0 : Ext B0 G0 nx H) (hmod : ModOk m) :
  ACalls Try.prog W0 51 [.agg (moV m V).toArray] nx H fun v nx' H' => Stab B0 nx nx' H' (fun H2 => L3At H2 v (z1F m)) ∧ Ext nx H nx' H' := by
 have hm := hm0.ext hx0 ok0;refine zg (fn := Try.f51) (c := _) Try.func51 rfl (fun tm n hn0 htm => ?_);have e0 : tm 0 = .agg (moV m V).toArray := htm 0;clear htm;replace hn0 : n = 26 := hn0;refine Trip.ok fun hok => ?_;replace hok : ∀ id o, H id = some o → id < nx := hok;refine z2k ?_;refine zY hm hok ?_ evd sdc;intro G x0 okG hb hG;clear e0;have y0 := hx0.trans x0;have hcl := hmod.cl;obtain ⟨ia, ic, iv⟩ := hG.inn.slice;obtain ⟨la, lc, lv⟩ := hG.low.slice;have g5 := hb.c5;have g6 := hb.c6;have gc := hb.c1;rw [iv] at g5;rw [lv] at g6
 repeat (first | (refine zc (by first | exact z09 | exact ofa | exact old) ?_) | (refine Trip.seq ?_) | (refine zd ?_) | (refine OpsL.nil ?_; (change Trip _ _ _ _ _)))
 refine zo (σ := ⟨nx + 1, fun _ => .old, G⟩) .inn (zE (l := [(0, .slice ia m.inn.length ic), (1, .slice la m.low.length lc)]) (r := (.slice (some ⟨nx + 1, 0, none⟩) 2 2, .new (.cells [.slice ia m.inn.length ic, .slice la m.low.length lc] 1 none false (some 26)))) (by simp [zQ, ASt.ev, zb]) krf) sdc ?_;intro σ1 hM x1;have ho1 := OldC.keep x1 (by simp) OldC.refl;have hB : ∀ {σ : CH}, OldC ⟨nx + 1, fun _ => .old, G⟩ σ → ∀ i, i < B0 → i < σ.nx ∧ σ.C i = .old := fun {σ} h i hi => ⟨Nat.lt_of_lt_of_le (Nat.lt_of_lt_of_le hi y0.1) h.1, (h.2 i (Nat.lt_of_lt_of_le hi y0.1)).1⟩;have hwk : ∀ {σ : CH} {k : Nat} {v : Value} {W : List (List Int)}, OldC ⟨nx + 1, fun _ => .old, G⟩ σ → L2At G0 v W → WK B0 nx k σ v W := fun {σ k v W} ho h H2 h1 h2 => L2At.ext (nx := B0) (nx' := B0) ⟨Nat.le_refl _, fun i hi => by rw [h1 i hi, (ho.2 i (Nat.lt_of_lt_of_le hi y0.1)).2]; exact y0.2 i hi⟩ ok0 h;obtain ⟨B, hBn⟩ : ∃ B, (CH.nx ⟨nx + 1, fun _ => .old, G⟩) = B := ⟨_, rfl⟩;rw [hBn] at hM;have hi0 := hm0.inn;have hl0 := hm0.low;rw [iv] at hi0;rw [lv] at hl0
 have hW : ∃ vs : List SV, OwnOrC z8E slV 26 .inn σ1 (.slice (some ⟨B, 0, none⟩) 2 2) vs ∧ AllC (WK B0 nx) σ1 vs ([m.inn, m.low] ++ (List.range 0).flatMap fun j => [z0O m j, z0M m j]) :=
  ⟨[(ia, m.inn.length, ic), (la, m.low.length, lc)], .inr ⟨B, rfl, hM⟩, (AllC.push (AllC.push AllC.nil (u := (ia, m.inn.length, ic)) (hwk ho1 hi0)) (u := (la, m.low.length, lc)) (hwk ho1 hl0))⟩
 change OpsL _ _ _ _ ⟨zb _ _ (.slice (some ⟨CH.nx ⟨nx + 1, fun _ => .old, G⟩, 0, none⟩) _ _), _, _, _⟩ _;rw [hBn];clear hM x1 hBn g5 g6;replace gc := zI ho1.ext okG gc
 repeat (first | (refine zc (by first | exact z09 | exact ofa | exact old | exact omv) ?_) | (refine Trip.seq ?_) | (refine zd ?_) | (refine Trip.block ?_) | (refine OpsL.nil ?_; (change Trip _ _ _ _ _)))
 clear gc;refine zG (fun (j : Nat) s => ∃ tm σ v, s = ⟨tm, n, σ.H, σ.nx⟩ ∧ tm 1 = .pointer (some ⟨nx, 0, none⟩) ∧ tm 3 = v ∧ tm 11 = .int .i64 m.closings ∧ tm 12 = .int .i64 j ∧ (j : Int) ≤ m.closings ∧ OldC ⟨nx + 1, fun _ => .old, G⟩ σ ∧ ∃ vs : List SV, OwnOrC z8E slV 26 .inn σ v vs ∧ AllC (WK B0 nx) σ vs ([m.inn, m.low] ++ (List.range j).flatMap fun j => [z0O m j, z0M m j])) (fun j => m.closings.toNat - j) 0 ?_ ?_
 ·exact ⟨_, σ1, _, rfl, stp, stp, stp, stp, by omega, ho1, hW⟩
 clear ho1 hW;rintro j s ⟨tm, σ, v, rfl, t1, t3, t11, t12, hj, ho, vs, hvs, hall⟩
 repeat (first | (refine zc (by first | exact omv | exact z24) ?_) | (refine Trip.seq ?_) | (refine zd ?_) | (refine Trip.block ?_) | (refine zJ (fun _ => ?_) (fun _ => ?_)) | (refine Trip.skip ?_; (change Trip _ _ _ _ _)) | (refine OpsL.nil ?_; (change Trip _ _ _ _ _)))
 ·have hlt : (j : Int) < m.closings := by omega
  have hsn : ([m.inn, m.low] ++ (List.range (j + 1)).flatMap fun j => [z0O m j, z0M m j]) = (([m.inn, m.low] ++ (List.range j).flatMap fun j => [z0O m j, z0M m j]) ++ [z0O m j]) ++ [z0M m j] := by
   rw [List.range_succ, List.flatMap_append]; simp
  have hlen : ([m.inn, m.low] ++ (List.range j).flatMap fun j => [z0O m j, z0M m j]).length = 2 + 2 * j := by
   have : ∀ k, ((List.range k).flatMap fun j => [z0O m j, z0M m j]).length = 2 * k := by
    intro k
    induction k with
    | zero => rfl
    | succ k ih => rw [List.range_succ, List.flatMap_append, List.length_append, ih]; simp; omega
   rw [List.length_append, this]; rfl
  have hvl : vs.length ≤ 100 := by have := hall.1; omega
  clear hlen;obtain ⟨W, hWe⟩ : ∃ W, ([m.inn, m.low] ++ (List.range j).flatMap fun j => [z0O m j, z0M m j]) = W := ⟨_, rfl⟩;rw [hWe] at hall hsn;clear hWe;refine zdn ?_;have hKK : ∀ {τ : CH}, OldC ⟨nx + 1, fun _ => .old, G⟩ τ → ∀ {l : List Nat}, ∀ k ∈ l, z1f τ.H ⟨nx, 0, none⟩ 8 = some (moV m V) := fun h _ _ _ => (hb.ext h.ext okG).all;have h0 := hKK ho (l := [0]) 0 (by simp);refine OpsQ.drawn [3, 6, 7, 8, 9] (K := fun _ _ H => z1f H ⟨nx, 0, none⟩ 8 = some (moV m V)) zU krf krf [0, 1, 2, 4, 5, 3, 6, 7, 8, 9] krf (hKK ho) ?_;refine zg8 ?_;refine z9X ?_;refine z00 3 (v := .agg (moV m V).toArray) rfl krf sdc h0 (fun H2 nx2 hK => zy (k := 8) evd xrf rfl xrf hK) ?_;refine zg8 ?_;refine z9X ?_;refine z00 6 (v := .agg (moV m V).toArray) rfl krf sdc h0 (fun H2 nx2 hK => zy (k := 8) evd xrf rfl xrf hK) ?_;refine zg8 ?_;refine z9X ?_;clear h0;refine z1K ?_;refine OpsL.c2 (hf := zap) (hc := (zgx W0 hm0 ok0 (y0.trans ho.ext) hmod hlt)) (h := ?_);rintro v1 nx1 H1 ⟨hs1, hx1⟩;obtain ⟨σ2, rfl, rfl, x2, hn2⟩ := z0N .tmp hx1;obtain ⟨a1, k1, rfl⟩ := L2At.slice hs1.now;have hle : nx ≤ σ.nx := Nat.le_trans (Nat.le_succ _) ho.1;have hw1 : WK B0 nx 0 σ2 (slV (a1, (z0O m j).length, k1)) (z0O m j) := WK.of hle (fun i h _ => by rw [hn2 i h]; simp) hs1;replace hall := hall.keep (fun _ _ _ _ h => h.keep x2 (by simp) (hB ho));replace hvs := hvs.keep x2 (by simp);replace ho := ho.keep x2 (by simp);have hle2 : nx ≤ σ2.nx := Nat.le_trans (Nat.le_succ _) ho.1;clear hs1 hx1 hn2 x2 hle;refine OpsL.nil ⟨hKK ho, ?_⟩;refine z1K ?_;refine OpsL.c2 (hf := z8n) (hc := (zgw W0 (hG.ext ho.ext okG) hmod hlt)) (h := ?_);rintro v2 nx2 H2 ⟨hs2, hx2⟩;obtain ⟨σ3, rfl, rfl, x3, hn3⟩ := z0N .tmp hx2;obtain ⟨a2, k2, rfl⟩ := L2At.slice hs2.now;have hw2 : WK B0 nx 0 σ3 (slV (a2, (z0M m j).length, k2)) (z0M m j) := WK.of hle2 (fun i h _ => by rw [hn3 i h]; simp) (fun H2 h1 h2 => hs2 H2 (fun i hi => by omega) h2);replace hall := hall.keep (fun _ _ _ _ h => h.keep x3 (by simp) (hB ho));replace hw1 := hw1.keep x3 (by simp) (hB ho);replace hvs := hvs.keep x3 (by simp);replace ho := ho.keep x3 (by simp);clear hs2 hx2 hn3 x3 hle2;refine OpsL.nil ⟨hKK ho, ?_⟩;refine z1K ?_;refine zo .tmp (zE (l := [(0, .slice a1 (z0O m j).length k1), (1, .slice a2 (z0M m j).length k2)]) (r := (.slice (some ⟨σ3.nx, 0, none⟩) 2 2, .new (.cells [.slice a1 (z0O m j).length k1, .slice a2 (z0M m j).length k2] 1 none false (some 26)))) (by simp [zQ, ASt.ev, zb]) krf) sdc ?_;intro σ4 hL x4
  have hu : RowsAt z8E 1 σ4.H (.slice (some ⟨σ3.nx, 0, none⟩) 2 2) [(a1, (z0O m j).length, k1), (a2, (z0M m j).length, k2)] := by
   refine .inr ⟨⟨σ3.nx, 0, none⟩, 2, rfl, fun i hi => ?_⟩;have hi2 : i = 0 ∨ i = 1 := by simp at hi; omega
   unfold z1f;simp only [hL.2.2];rcases hi2 with rfl | rfl <;> rfl
  replace hall := hall.keep (fun _ _ _ _ h => h.keep x4 (by simp) (hB ho));replace hw1 := hw1.keep x4 (by simp) (hB ho);replace hw2 := hw2.keep x4 (by simp) (hB ho);replace hvs := hvs.keep x4 (by simp);replace ho := ho.keep x4 (by simp);clear hL x4;refine OpsL.nil ⟨hKK ho, ?_⟩;refine z1K ?_;refine zdh (bytes := 24) (z := [.slice none 0 0]) zez z0b z1n hvs hu (by simp) xrf xrf xrf xrf xrf rfl (by simp; omega) (by omega) evd evd sdc ?_;intro v3 σ5 hown x5;replace hall := hall.keep (fun _ _ _ _ h => h.keep x5 (by simp) (hB ho));replace hw1 := hw1.keep x5 (by simp) (hB ho);replace hw2 := hw2.keep x5 (by simp) (hB ho);replace ho := ho.keep x5 (by simp);clear x5 hvs hu;refine OpsL.nil ⟨hKK ho, ?_⟩;refine z1K ?_
  (first | (refine zc (by exact z09) ?_))
  refine OpsL.nil ⟨hKK ho, ?_⟩;refine OpsQ.nil ?_;refine zen ?_;refine ⟨j + 1, ⟨_, σ5, v3, rfl, stp, stp, stp, stp, by omega, ho, _, .inl hown, ?_⟩, by omega⟩;rw [hsn];have := (AllC.push hall hw1).push hw2;simpa using this
 ·have hj2 : (j : Int) = m.closings := by omega
  refine zdu ?_;refine ⟨.inr rfl, _, zn, fun H2 h1 h2 => ?_, x0.trans ho.ext⟩
  have hwf : ([m.inn, m.low] ++ (List.range j).flatMap fun j => [z0O m j, z0M m j]) = z1F m := by
   unfold z1F;rw [show m.closings.toNat = j by omega]
  rw [hwf] at hall;have hl := hall.1
  have hx : ∀ (i : Nat) (h : i < (z1F m).length), ∃ u, vs[i]? = some u ∧ L2At H2 (slV u) (z1F m)[i] := fun i h => by
   obtain ⟨u, q1, q2⟩ := hall.2 i _ (List.getElem?_eq_getElem h);exact ⟨u, q1, q2 H2 h1 fun k k1 k2 _ => h2 k k1 k2⟩
  have hnew : ∀ {b : Nat}, b < σ.nx → σ.C b = .inn → H2 b = σ.H b := fun {b} q1 q2 => h2 b (by
   by_cases e : b < nx + 1
   ·have := (ho.2 b e).1; rw [q2] at this; cases this
   ·omega) q1
  have h2l : (z1F m).length ≠ 0 := by simp [z1F]
  have hat : L3At H2 v (z1F m) := by
   rcases hvs with hvs | hvs
   ·obtain ⟨b, t, rest, rfl, hb1, hb2, hb3⟩ := z8c zez hvs (fun e => h2l (by rw [← hl, e]; rfl));refine .inr ⟨⟨b, 0, some t⟩, vs.length, by rw [hl], fun i hi => ?_⟩;obtain ⟨u, q1, q2⟩ := hx i hi;refine ⟨slV u, ?_, q2⟩;rw [Nat.zero_add];refine z0c (by rw [hnew hb1 hb2]; exact hb3) ?_;rw [List.getElem?_append_left (by rw [List.length_map, hl]; exact hi), List.getElem?_map, q1]; rfl
   ·obtain ⟨b, rfl, hb1, hb2, hb3⟩ := hvs;refine .inr ⟨⟨b, 0, none⟩, (vs.map slV).length, by rw [List.length_map, hl], fun i hi => ?_⟩;obtain ⟨u, q1, q2⟩ := hx i hi;refine ⟨slV u, ?_, q2⟩;rw [Nat.zero_add];refine z0c (by rw [hnew hb1 hb2]; exact hb3) ?_;rw [List.getElem?_map, q1]; rfl
  simpa [zb, *] using hat
end Go.Proofs.Ytjgbcpagfghfnaa

import Derived.Shelf.Lay
import Derived.Shelf.Sort.Plain
import Derived.Shelf.Slices.In.SortNone
import Derived.Ground.NamesProg
import Derived.Test.YteplpegfcpmflaaGreatQKM11
set_option linter.unusedSimpArgs false
set_option linter.unusedVariables false
set_option maxRecDepth 100000
set_option maxHeartbeats 32000000
namespace Go.Proofs.YteplpegfcpmflaaGreat
open Go.RowKit Go.Am
attribute [local irreducible] aop OpsL Trip zI z2w OpsK OpsR
abbrev z8G (H : Heap) (ob : Option (Nat × Nat)) (v : Value) (l : List Thg) : Prop := OwnOf z1A 2 101 H ob v l
theorem zcp : Am.z0U Tryz.prog 25 := ⟨Tryz.f25, Tryz.func25, by kernel_rfl, by kernel_rfl⟩
def z68 (a : Aut) : List Thg := (1, 0) :: a.init.map (fun s => ((0, s) : Thg))
theorem z4h {a : Aut} (hn : AutLen a) : (z02 a).length ≤ 3000 := by
 have h1 := hn.opens;have h2 := hn.closes;have h3 := hn.inners;simp only [z02, List.length_append, List.length_map];omega
theorem zdL {H : Heap} {b : Nat} : z0Q Tryz.prog H 108 (.pointer (some ⟨b, 0, none⟩)) none none none = some (.slice (some ⟨b, 0, none⟩) 2 2) := by
 unfold z0Q;simp only [Tryz.underlying108, show z1F Tryz.prog 101 = some 2 from rfl, if_true];rfl
theorem zeB {H : Heap} {b : Nat} {p : List Thg} {q : Option TypeId} (hp : p.length = 2) (h : H b = some (.cells (z5z p) 0 none false q)) : RowsAt z1A 2 H (.slice (some ⟨b, 0, none⟩) p.length 2) p := by
 refine .inr ⟨⟨b, 0, none⟩, 2, rfl, fun j hj => ?_⟩;have hf := z5k z1P p j hj;have hl := z0i z1P p;unfold z0M;simp only [h];rw [if_pos ⟨trivial, by unfold z5z; rw [hl]; omega⟩];unfold z5z;rw [Nat.zero_add, hf]
theorem zcd {α : Type} {enc : α → List Value} {sz : Nat} (hk : ∀ x, (enc x).length = sz) {H : Heap} {b t : Nat} {el : TypeId} {l : List α} {rest : List Value} {i : Nat} (hH : H b = some (.cells (l.flatMap enc ++ rest) sz (some t) false (some el))) (hi : i < l.length) : z0M H ⟨b, 0 + i * sz, some t⟩ sz = some (enc l[i]) := by
 have hfl := z0i hk l;have hle : (i + 1) * sz ≤ l.length * sz := Nat.mul_le_mul_right sz hi;rw [Nat.add_mul, Nat.one_mul] at hle;unfold z0M;simp only [hH];rw [if_pos ⟨trivial, by rw [List.length_append, hfl]; omega⟩, Nat.zero_add, List.drop_append_of_le_length (by rw [hfl]; omega), List.take_append_of_le_length (by rw [List.length_drop, hfl]; omega), z5k hk l i hi]
theorem zgs {H : Heap} {b t : Nat} {l : List Thg} {x : Thg} {v : Value} (h : z8G H (some (b, t)) v (l ++ [x])) : z8G H (some (b, t)) (.slice (some ⟨b, 0 + 0 * 2, some t⟩) (l.length - 0) (l.length - 0)) l := by
 obtain ⟨_, _, rest, ho⟩ := h;refine ⟨by simp, by rw [z0i z1P], z1A x ++ rest, ?_⟩;rw [ho, List.flatMap_append, List.append_assoc];simp
theorem zix (W0 : World) {nx : Nat} {H : Heap} {a : Aut} {vi vf vo vc vn : Value} (ha : AutIn H a vi vf vo vc vn) (hn : AutLen a) (hi0 : a.init ≠ []) (hmu : muF a [] (z68 a) ≤ 100000) :
  ACalls Tryz.prog W0 25 [.agg (zy a vi vf vo vc vn).toArray] nx H fun v nx' H' => ∃ (m : Nat) (F : List Thg), v = .map (some m) ∧ H' m = some (.map (F.map fun t => (thV t, .agg #[])) (List.range F.length) F.length) ∧ F.Nodup ∧ (∀ t, t ∈ F ↔ ReachT a t) ∧ nx ≤ m ∧ m < nx' ∧ Ext nx H nx' H' := by
 obtain ⟨ai, ci, rfl⟩ := ha.init.slice;obtain ⟨af, cf, rfl⟩ := ha.final.slice;obtain ⟨ao, co, rfl⟩ := ha.opens.slice;obtain ⟨ac, cc, rfl⟩ := ha.closes.slice;obtain ⟨an, cn, rfl⟩ := ha.inners.slice;refine zl (fn := Tryz.f25) (c := _) Tryz.func25 rfl (fun tm n hn0 htm => ?_);have q0 : tm 0 = .agg (zy a (.slice ai a.init.length ci) (.slice af a.final.length cf) (.slice ao a.opens.length co) (.slice ac a.closes.length cc) (.slice an a.inners.length cn)).toArray := htm 0;clear htm;replace hn0 : n = 75 := hn0;refine Trip.ok fun hok => ?_;replace hok : ∀ id o, H id = some o → id < nx := hok;refine z5L ?_;refine OpsL.new zsd (z0f evr) ?_;have hx0 : Ext nx H (nx + 1) (H.put nx (.cells (Value.agg (zy a (.slice ai a.init.length ci) (.slice af a.final.length cf) (.slice ao a.opens.length co) (.slice ac a.closes.length cc) (.slice an a.inners.length cn)).toArray).cells.toList 0 none false (some 30))) := zh;have gx : (H.put nx (.cells (Value.agg (zy a (.slice ai a.init.length ci) (.slice af a.final.length cf) (.slice ao a.opens.length co) (.slice ac a.closes.length cc) (.slice an a.inners.length cn)).toArray).cells.toList 0 none false (some 30))) nx = some (.cells (zy a (.slice ai a.init.length ci) (.slice af a.final.length cf) (.slice ao a.opens.length co) (.slice ac a.closes.length cc) (.slice an a.inners.length cn)) 0 none false (some 30)) := zb;have ok0 := zF (o := .cells (Value.agg (zy a (.slice ai a.init.length ci) (.slice af a.final.length cf) (.slice ao a.opens.length co) (.slice ac a.closes.length cc) (.slice an a.inners.length cn)).toArray).cells.toList 0 none false (some 30)) hok;generalize H.put nx (.cells (Value.agg (zy a (.slice ai a.init.length ci) (.slice af a.final.length cf) (.slice ao a.opens.length co) (.slice ac a.closes.length cc) (.slice an a.inners.length cn)).toArray).cells.toList 0 none false (some 30)) = G at *;refine z8v ?_;refine OpsL.new zsd z2f ?_;have hx1 : Ext (nx + 1) G (nx + 1 + 1) (G.put (nx + 1) (.map [] [] 0)) := zh;have gm : (G.put (nx + 1) (.map [] [] 0)) (nx + 1) = some (.map [] [] 0) := zb;have ok1 := zF (o := .map [] [] 0) ok0;generalize G.put (nx + 1) (.map [] [] 0) = G1 at *;have gx1 := (hx1.2 nx zom).trans gx;have ha1 := ha.ext (hx0.trans hx1) hok
 repeat fail
 refine zd (zg (k := 7) (vs := zy a (.slice ai a.init.length ci) (.slice af a.final.length cf) (.slice ao a.opens.length co) (.slice ac a.closes.length cc) (.slice an a.inners.length cn)) evd zxr rfl zxr (zG gx1 rfl)) ?_;refine z0c (hf := z6A) (hc := (zfE W0 ha1 hn).ok) (h := ?_);rintro v1 n1 H1 ⟨⟨ob1, w1, x1, b1⟩, ok1'⟩;refine z0c (hf := z55) (hc := (zbd W0 (w1.at z0y) (z4h hn)).ok) (h := ?_);rintro v2 n2 H2 ⟨⟨W, rfl, hw, x2⟩, ok2⟩;have hle1 := x1.1;have hle2 := x2.1;have gm2 : H2 (nx + 1) = some (.map [] [] 0) := by rw [x2.2 _ zom, x1.2 _ zom]; exact gm
 have gx2 : H2 nx = some (.cells (zy a (.slice ai a.init.length ci) (.slice af a.final.length cf) (.slice ao a.opens.length co) (.slice ac a.closes.length cc) (.slice an a.inners.length cn)) 0 none false (some 30)) := by rw [x2.2 _ zom, x1.2 _ zom]; exact gx1
 have ha2 := ha1.ext (x1.trans x2) ok1;have hxH : Ext nx H n2 H2 := ((hx0.trans hx1).trans x1).trans x2;clear gx gx1 gm w1 b1 ha ha1 x1 x2 hx0 hx1 ok0 ok1 ok1';refine z8v ?_;refine zd (zE (v := thV (1, 0)) (l := [(0, .int .i64 1), (1, .int .i64 0)]) zep krf) ?_;refine OpsL.new zsd (zq (l := [(0, thV (1, 0))]) (r := (.slice (some ⟨n2, 0, none⟩) 1 1, .new (.cells (z1A (1, 0)) 2 none false (some 101)))) zeq krf) ?_;have x3 : Ext n2 H2 (n2 + 1) (H2.put n2 (.cells (z1A (1, 0)) 2 none false (some 101))) := zh;have gt : (H2.put n2 (.cells (z1A (1, 0)) 2 none false (some 101))) n2 = some (.cells (z1A (1, 0)) 2 none false (some 101)) := zb;have ok3 := zF (o := .cells (z1A (1, 0)) 2 none false (some 101)) ok2;generalize H2.put n2 (.cells (z1A (1, 0)) 2 none false (some 101)) = G3 at *;have gx3 := (x3.2 nx zom).trans gx2;have gm3 := (x3.2 (nx + 1) zom).trans gm2;have ha3 := ha2.ext x3 ok2;have hw3 := hw.ext x3;have ci0 : zj G3 ⟨nx, 0 + 2, none⟩ (.slice ai a.init.length ci) := by rw [Nat.zero_add]; exact ze gx3 rfl
 have hli := hn.init;clear gx2 gm2 hw ha2 ok2;refine zid ?_;refine Trip.mono (Q := fun e st => e = .exit 0 ∧ ∃ (tm' : Nat → Value) (nx' : Nat) (H' : Heap) (ob : Option (Nat × Nat)) (v : Value), st = ⟨tm', n, H', nx'⟩ ∧ Ext (n2 + 1) G3 nx' H' ∧ (∀ id o, H' id = some o → id < nx') ∧ z8G H' ob v (z68 a) ∧ (∀ b t, ob = some (b, t) → n2 + 1 ≤ b ∧ b < nx') ∧ tm' 3 = .map (some (nx + 1)) ∧ tm' 4 = .map (some n1) ∧ tm' 5 = v) ?_ ?_
 ·refine zD (fun (i : Nat) st => ∃ (tm' : Nat → Value) (nx' : Nat) (H' : Heap) (ob : Option (Nat × Nat)) (v : Value), st = ⟨tm', n, H', nx'⟩ ∧ Ext (n2 + 1) G3 nx' H' ∧ (∀ id o, H' id = some o → id < nx') ∧ (i = 0 → v = .slice (some ⟨n2, 0, none⟩) 1 1 ∧ ob = none) ∧ (0 < i → z8G H' ob v ((1, 0) :: (a.init.take i).map (fun s => ((0, s) : Thg)))) ∧ (∀ b t, ob = some (b, t) → n2 + 1 ≤ b ∧ b < nx') ∧ tm' 3 = .map (some (nx + 1)) ∧ tm' 4 = .map (some n1) ∧ tm' 5 = v ∧ tm' 21 = .slice ai a.init.length ci ∧ tm' 22 = .int .i64 a.init.length ∧ tm' 23 = .int .i64 i ∧ i ≤ a.init.length) (fun i => a.init.length - i) 0 ?_ ?_
  ·exact ⟨_, _, _, none, _, rfl, Ext.refl, ok3, fun _ => ⟨rfl, rfl⟩, fun h => absurd h zom, fun _ _ h => (by cases h), stp, stp, stp, stp, stp, stp, Nat.zero_le _⟩
  ·rintro i st ⟨tm, nx', H', ob, v, rfl, hx, hok', hz, hp, hob, q3, q4, q5, q21, q22, q23, hi⟩;by_cases hlt : i < a.init.length
   ·obtain ⟨p, hp0, g⟩ := z17 (ha3.init.ext hx ok3) hlt;subst hp0;have hst : (a.init.take (i + 1)).map (fun s => ((0, s) : Thg)) = (a.init.take i).map (fun s => ((0, s) : Thg)) ++ [(0, a.init[i])] := by rw [List.take_succ_eq_append_getElem hlt, List.map_append]; rfl
    generalize a.init[i] = s at *;have hle := hx.1;refine zft ?_;refine zd (zE (v := thV (0, s)) (l := [(0, .int .i64 0), (1, .int .i64 s)]) zep krf) ?_;refine OpsL.new zsd (zq (l := [(0, thV (0, s))]) (r := (.slice (some ⟨nx', 0, none⟩) 1 1, .new (.cells (z1A (0, s)) 2 none false (some 101)))) zeq krf) ?_;have x5 : Ext nx' H' (nx' + 1) (H'.put nx' (.cells (z1A (0, s)) 2 none false (some 101))) := zh;have ok5 := zF (o := .cells (z1A (0, s)) 2 none false (some 101)) hok'
    have hone : RowsAt z1A 2 (H'.put nx' (.cells (z1A (0, s)) 2 none false (some 101))) (.slice (some ⟨nx', 0, none⟩) 1 1) [((0, s) : Thg)] := by
     refine .inr ⟨⟨nx', 0, none⟩, 1, rfl, fun j hj => ?_⟩;have : j = 0 := by simpa using hj
     subst this;exact z08 (by show 0 + 2 ≤ 2; decide)
    generalize H'.put nx' (.cells (z1A (0, s)) 2 none false (some 101)) = G5 at *;by_cases hi1 : i = 0
    ·obtain ⟨rfl, rfl⟩ := hz hi1;subst hi1;have hg : G5 n2 = some (.cells (z1A (1, 0)) 2 none false (some 101)) := by rw [x5.2 n2 zom, hx.2 n2 zom]; exact gt
     have hsrc : z3G G5 2 (.slice (some ⟨nx', 0, none⟩) 1 1) none = some (1, z1A (0, s)) := by have := z5V z1P zom hone; simpa using this
     refine OpsL.new zsd (z44 (b := n2) (k := 1) (m := 1) (sz := 2) (bytes := 16) (z := [.int .i64 0, .int .i64 0]) evd evd hg rfl hsrc (z7Z _) (by decide) zxr zxr zxr zxr zxr zxr rfl (by decide) (by decide)) ?_;refine zg8 ?_;refine ⟨0 + 1, ⟨_, _, _, some (nx' + 1, nx' + 1), _, rfl, ⟨zom, fun j hj => ?_⟩, zF ok5, fun h => absurd h zom, fun _ => ⟨rfl, by simp [hst, z1A], [], ?_⟩, fun b t h => by cases h; omega, stp, stp, stp, stp, stp, stp, zom⟩, zom⟩
     ·rw [za zom, x5.2 j zom, hx.2 j hj]
     ·rw [zb, hst]; simp
    ·have hown := hp zom;have hzl : ((1, 0) :: (a.init.take i).map (fun s => ((0, s) : Thg))).length ≤ 2000 := by rw [List.length_cons, List.length_map, List.length_take]; omega
     have hst2 : ((1, 0) : Thg) :: (a.init.take (i + 1)).map (fun s => ((0, s) : Thg)) = ((1, 0) :: (a.init.take i).map (fun s => ((0, s) : Thg))) ++ [(0, s)] := by rw [hst]; rfl
     clear hst hp hz;generalize ((1, 0) :: (a.init.take i).map (fun s => ((0, s) : Thg))) = zs at *;refine zJ (bytes := 16) (z := rep 2 [.int .i64 0]) z1P z7Z zom zsd (OwnOf.ext x5 (fun b t h => (hob b t h).2) hown) hone evd evd (fun b t h => by have := (hob b t h).2; omega) zxr zxr zxr zxr zxr rfl (by simp; omega) zom ?_;intro v8 nx8 H8 ob8 hA8;refine zg8 ?_;refine ⟨i + 1, ⟨_, nx8, H8, ob8, v8, rfl, ⟨by have := hA8.le; omega, fun j hj => ?_⟩, hA8.ok (fun b t h => by have := (hob b t h).2; omega) ok5, fun h => absurd h zom, fun _ => ?_, fun b t h => ?_, stp, stp, stp, stp, stp, stp, zom⟩, zom⟩
     ·rw [hA8.same j zom (fun b t h => by have := (hob b t h).1; omega), x5.2 j zom, hx.2 j hj]
     ·rw [hst2]; exact hA8.own
     ·obtain ⟨q1, q2⟩ := hA8.blk b t h;refine ⟨?_, q1⟩;rcases q2 with rfl | ⟨t', h'⟩
      ·omega
      ·exact (hob _ _ h').1
   ·have hin : i = a.init.length := by omega
    subst hin;have hpos : 0 < a.init.length := List.length_pos_iff.2 hi0;have hown := hp hpos;rw [List.take_length] at hown;refine z9O ?_;exact ⟨rfl, _, _, _, ob, v, rfl, hx, hok', hown, hob, stp, stp, stp⟩
 ·rintro e st ⟨rfl, tm', n4, H4, ob4, v4, rfl, hx4, ok4, hown4, hob4, q3, q4, q5⟩;refine z5e ?_;have hle4 := hx4.1;have hFr : ∀ j, j < n2 + 1 → j ≠ nx + 1 → H4 j = G3 j := fun j hj _ => hx4.2 j hj;have hc4 : H4 (nx + 1) = some (.map (([] : List Thg).map fun t => (thV t, .agg #[])) (List.range ([] : List Thg).length) ([] : List Thg).length) := (hx4.2 _ zom).trans gm3;clear gt ci0 hx4
  repeat (first | refine Trip.seq ?_ | refine Trip.block ?_)
  refine zD (fun (p : List Thg × List Thg) st => ∃ (tm' : Nat → Value) (nx' : Nat) (H' : Heap) (ob : Option (Nat × Nat)) (v : Value), st = ⟨tm', n, H', nx'⟩ ∧ n2 + 1 ≤ nx' ∧ (∀ j, j < n2 + 1 → j ≠ nx + 1 → H' j = G3 j) ∧ (∀ id o, H' id = some o → id < nx') ∧ H' (nx + 1) = some (.map (p.1.map fun t => (thV t, .agg #[])) (List.range p.1.length) p.1.length) ∧ z8G H' ob v p.2 ∧ (∀ b t, ob = some (b, t) → n2 + 1 ≤ b ∧ b < nx') ∧ FindI a p.1 p.2 ∧ muF a p.1 p.2 ≤ 100000 ∧ tm' 3 = .map (some (nx + 1)) ∧ tm' 4 = .map (some n1) ∧ tm' 5 = v) (fun p => muF a p.1 p.2) ([], z68 a) ?_ ?_
  ·exact ⟨_, _, _, ob4, v4, rfl, hle4, hFr, ok4, hc4, hown4, hob4, zaS a, hmu, stp, stp, stp⟩
  ·clear q3 q4 q5 hFr hc4 hown4 hob4 ok4 hle4;rintro ⟨F, todo⟩ st ⟨tm, nx', H', ob, v, rfl, hle, hFr, hok', hcell, hown, hob, hI, hM, q3, q4, q5⟩;dsimp only at hcell hown hI hM;rcases List.eq_nil_or_concat todo with rfl | ⟨t0, t, htd⟩
   ·have hor := hown.at z1P;obtain ⟨va, vc, rfl⟩ := hor.slice;refine z5f ?_;refine z2e ?_ (c := by simp);refine z8A ?_;refine z9P ?_;refine ⟨.inr rfl, _, zx, nx + 1, F, stp, hcell, hI.nodup, hI.all, zom, zom, by have := hxH.1; omega, fun j hj => ?_⟩;rw [hFr j zom zom, x3.2 j zom, hxH.2 j hj]
   ·rw [List.concat_eq_append] at htd;subst htd;have hml : t0.length + 1 ≤ 100000 := by unfold muF at hM; rw [List.length_append, List.length_singleton] at hM; omega
    cases ob with
    | none => obtain ⟨_, _, h2⟩ := hown; simp at h2
    | some bt =>
     obtain ⟨b, tg⟩ := bt;have hor := hown.at z1P;have hpop := zgs hown;obtain ⟨hv, _, rest, hH⟩ := hown;have hl1 : (t0 ++ [t]).length = t0.length + 1 := by simp
     rw [hl1] at hv;subst hv;have hbb := hob b tg rfl
     have hg : z0M H' ⟨b, 0 + (((t0.length + 1 : Nat) : Int) - 1).toNat * 2, some tg⟩ 2 = some (z1A t) := by
      rw [show (((t0.length + 1 : Nat) : Int) - 1).toNat = t0.length by omega];have := zcd z1P hH (i := t0.length) (by simp);simpa using this
     have hsl : ∀ GG : Heap, GG b = H' b → z0Q Tryz.prog GG 102 (.slice (some ⟨b, 0, some tg⟩) (t0.length + 1) (t0.length + 1)) none (some (.int .i64 (((t0.length + 1 : Nat) : Int) - 1))) none = some (.slice (some ⟨b, 0 + 0 * 2, some tg⟩) (t0.length - 0) (t0.length - 0)) := fun GG hGG => by
      have := z06 (P := Tryz.prog) (H := GG) (t := 102) (el := 101) (sz := 2) (a := ⟨b, 0, some tg⟩) (len := t0.length + 1) (cap := t0.length + 1) (l := 0) (h := t0.length) (tg := tg) (lo := none) (hi := some (.int .i64 (((t0.length + 1 : Nat) : Int) - 1))) zxr zxr (hGG.trans hH) rfl rfl rfl (.inl ⟨rfl, rfl⟩) (.inr ⟨.i64, by congr 2; omega⟩) (Nat.zero_le _) (Nat.le_succ _)
      rwa [if_neg zom] at this
     have hm1 := zgt a F t0 t;have hun : t ∈ z8w a := hI.uni t (List.mem_append.2 (.inr (List.mem_singleton.2 rfl)));refine ziF ?_;refine OpsL.new zsd (zB (l := (rep 2 [.int .i64 0])) krf) ?_;refine OpsL.upd (zw (k := 2) (u := thV t) evd evr zxr rfl (o := .cells (z1A t) 0 none false (some 101)) (zC (vs := (z1A t)) zb rfl rfl)) ?_;obtain ⟨G5, hG5⟩ : ∃ G0, G0 = (H'.put nx' (.cells (rep 2 [.int .i64 0]) 0 none false (some 101))).put nx' (.cells (z1A t) 0 none false (some 101)) := ⟨_, rfl⟩;have xG5 : Ext nx' H' (nx' + 1) G5 := ⟨Nat.le_succ _, fun j hj => by rw [hG5, za zom, za zom]⟩;have kG5 : ∀ id o, G5 id = some o → id < nx' + 1 := by rw [hG5]; exact zU (zF hok') zb
     have bG5 : G5 nx' = some (.cells (z1A t) 0 none false (some 101)) := by rw [hG5, zb]
     first | rw [← hG5] | skip
     clear hG5
     repeat (first | (refine zd (by first | exact omv | exact z7C | exact z2i) ?_) | refine Trip.seq ?_ | refine zm ?_ | (refine OpsL.nil ?_; (change Trip _ _ _ _ _)))
     refine zd (z07 (r := .slice (some ⟨b, 0 + 0 * 2, some tg⟩) (t0.length - 0) (t0.length - 0)) (a := none) (b := some (.int .i64 (((t0.length + 1 : Nat) : Int) - 1))) (c := none) evd rfl zer rfl (hsl _ (xG5.2 b zom))) ?_;have hF5 : FoundAt G5 (.map (some (nx + 1))) F := ⟨nx + 1, _, _, rfl, (xG5.2 _ zom).trans hcell⟩;refine z5c ?_;refine zd (zg (k := 2) (vs := z1A t) evd zxr rfl zxr (zG bG5 rfl)) ?_;refine zd (z0j evd evr (hF5.told t)) ?_;refine zfZ ?_;refine OpsL.new zsd (zB (l := []) krf) ?_;refine OpsL.upd (zw (k := 0) (u := .agg #[]) evd evr zxr rfl (o := .cells [] 0 none false (some 103)) (zC (vs := []) zb rfl rfl)) ?_;obtain ⟨G6, hG6⟩ : ∃ G0, G0 = (G5.put (nx' + 1) (.cells [] 0 none false (some 103))).put (nx' + 1) (.cells [] 0 none false (some 103)) := ⟨_, rfl⟩;have xG6 : Ext (nx' + 1) G5 ((nx' + 1) + 1) G6 := ⟨Nat.le_succ _, fun j hj => by rw [hG6, za zom, za zom]⟩;have kG6 : ∀ id o, G6 id = some o → id < (nx' + 1) + 1 := by rw [hG6]; exact zU (zF kG5) zb
     have bG6 : G6 (nx' + 1) = some (.cells [] 0 none false (some 103)) := by rw [hG6, zb]
     first | rw [← hG6] | skip
     clear hG6;have hc6 : G6 (nx + 1) = some (.map (F.map fun t => (thV t, .agg #[])) (List.range F.length) F.length) := by rw [xG6.2 _ zom, xG5.2 _ zom]; exact hcell
     have hF6 : ∀ j, j < n2 + 1 → j ≠ nx + 1 → G6 j = G3 j := fun j h1 h2 => by rw [xG6.2 _ zom, xG5.2 _ zom]; exact hFr j h1 h2
     have hpop6 := OwnOf.ext (xG5.trans xG6) (fun b' t' h => by cases h; exact hbb.2) hpop;have hb6 : G6 nx' = some (.cells (z1A t) 0 none false (some 101)) := (xG6.2 _ (Nat.lt_succ_self _)).trans bG5;clear hg hsl hF5 bG6 bG5 hor hpop;by_cases htF : t ∈ F
     ·simp only [htF, decide_true];refine z5c ?_;refine z0F ?_
      repeat (first | (refine Trip.exit ?_; ((repeat (refine z0e ?_)); dsimp only)))
      exact ⟨(F, t0), ⟨_, _, _, some (b, tg), _, rfl, zom, hF6, kG6, hc6, hpop6, fun b' t' h => by cases h; omega, hI.old htF, by show muF a F t0 ≤ 100000; omega, stp, stp, stp⟩, by show muF a F t0 < muF a F (t0 ++ [t]); omega⟩
     ·have hJ0 := hI.fresh htF;simp only [htF, decide_false];refine z5c ?_;refine z0a ?_;refine zfq ?_;refine zd (zg (k := 2) (vs := z1A t) evd zxr rfl zxr (zG hb6 rfl)) ?_;refine zd (zE (v := .agg #[]) (l := []) (by simp only [z0h]) krf) ?_;have hupd : zM Tryz.prog G6 53 (.map (some (nx + 1))) (thV t) (.agg #[]) = some (.upd (nx + 1) (.map ((F ++ [t]).map fun t => (thV t, .agg #[])) (List.range (F ++ [t]).length) (F ++ [t]).length)) := by rw [FoundAt.put hc6 htF]; simp [List.range_succ]
      refine OpsL.upd (z1e evd evr evd hupd) ?_;have hG7 : ∀ j, j ≠ nx + 1 → (G6.put (nx + 1) (.map ((F ++ [t]).map fun t => (thV t, .agg #[])) (List.range (F ++ [t]).length) (F ++ [t]).length)) j = G6 j := fun j hj => za hj;have hc7 : (G6.put (nx + 1) (.map ((F ++ [t]).map fun t => (thV t, .agg #[])) (List.range (F ++ [t]).length) (F ++ [t]).length)) (nx + 1) = some (.map ((F ++ [t]).map fun t => (thV t, .agg #[])) (List.range (F ++ [t]).length) (F ++ [t]).length) := zb;have ok7 := zU (o := .map ((F ++ [t]).map fun t => (thV t, .agg #[])) (List.range (F ++ [t]).length) (F ++ [t]).length) kG6 hc6;generalize G6.put (nx + 1) (.map ((F ++ [t]).map fun t => (thV t, .agg #[])) (List.range (F ++ [t]).length) (F ++ [t]).length) = G7 at *;have hF7 : ∀ j, j < n2 + 1 → j ≠ nx + 1 → G7 j = G3 j := fun j h1 h2 => by rw [hG7 j h2]; exact hF6 j h1 h2
      have hown7 : z8G G7 (some (b, tg)) (.slice (some ⟨b, 0 + 0 * 2, some tg⟩) (t0.length - 0) (t0.length - 0)) t0 := OwnRow.same (fun b' t' h => by cases h; exact hG7 b zom) hpop6;have hb7 : G7 nx' = some (.cells (z1A t) 0 none false (some 101)) := (hG7 nx' zom).trans hb6;obtain ⟨r, htell⟩ := hw3.tells t;have hwf : ∀ (H9 : Heap) (nx9 : Nat), n2 + 1 ≤ nx9 → (∀ j, j < n2 + 1 → j ≠ nx + 1 → H9 j = G3 j) → WaitIn H9 n1 n1 nx9 (z4K (z02 a)) W := fun H9 nx9 h1 h2 => hw3.framed (fun j h3 h4 => h2 j h4 zom) h1;have hrl : (z4K (z02 a) t).length ≤ (z02 a).length := List.length_filter_le _ _;have hml2 := z4h hn;clear hb6 hpop6 hc6 hF6 hupd hG7 kG6 xG5 xG6 kG5;refine z7A ?_;refine zd (zg (k := 2) (vs := z1A t) evd zxr rfl zxr (zG hb7 rfl)) ?_;refine zd (z0j evd evr (htell G7 _ (hwf G7 (nx' + 1 + 1) zom hF7)).1) ?_;obtain ⟨ra, rc, rfl⟩ := (htell G7 _ (hwf G7 (nx' + 1 + 1) zom hF7)).2.slice;generalize z4K (z02 a) t = rs at *
      repeat (first | (refine zd (by first | exact omv | exact z2i) ?_) | refine Trip.block ?_ | (refine OpsL.nil ?_; (change Trip _ _ _ _ _)))
      refine Trip.mono (Q := fun e st => e = .exit 4 ∧ ∃ (tm' : Nat → Value) (nx3 : Nat) (H3 : Heap) (ob3 : Option (Nat × Nat)) (v3 : Value) (td : List Thg), st = ⟨tm', n, H3, nx3⟩ ∧ n2 + 1 ≤ nx3 ∧ (∀ j, j < n2 + 1 → j ≠ nx + 1 → H3 j = G3 j) ∧ (∀ id o, H3 id = some o → id < nx3) ∧ H3 (nx + 1) = some (.map ((F ++ [t]).map fun t => (thV t, .agg #[])) (List.range (F ++ [t]).length) (F ++ [t]).length) ∧ z8G H3 ob3 v3 td ∧ (∀ b t, ob3 = some (b, t) → n2 + 1 ≤ b ∧ b < nx3) ∧ FindJ a (F ++ [t]) td [] ∧ td.length ≤ t0.length + 2 * rs.length ∧ tm' 3 = .map (some (nx + 1)) ∧ tm' 4 = .map (some n1) ∧ tm' 5 = v3) ?_ ?_
      ·refine zD (fun (i : Nat) st => ∃ (tm' : Nat → Value) (nx3 : Nat) (H3 : Heap) (ob3 : Option (Nat × Nat)) (v3 : Value) (td : List Thg), st = ⟨tm', n, H3, nx3⟩ ∧ n2 + 1 ≤ nx3 ∧ (∀ j, j < n2 + 1 → j ≠ nx + 1 → H3 j = G3 j) ∧ (∀ id o, H3 id = some o → id < nx3) ∧ H3 (nx + 1) = some (.map ((F ++ [t]).map fun t => (thV t, .agg #[])) (List.range (F ++ [t]).length) (F ++ [t]).length) ∧ z8G H3 ob3 v3 td ∧ (∀ b t, ob3 = some (b, t) → n2 + 1 ≤ b ∧ b < nx3) ∧ FindJ a (F ++ [t]) td (rs.drop i) ∧ td.length ≤ t0.length + 2 * i ∧ tm' 3 = .map (some (nx + 1)) ∧ tm' 4 = .map (some n1) ∧ tm' 5 = v3 ∧ tm' 59 = .slice ra rs.length rc ∧ tm' 60 = .int .i64 rs.length ∧ tm' 61 = .int .i64 i ∧ i ≤ rs.length) (fun i => rs.length - i) 0 ?_ ?_
       ·exact ⟨_, _, _, some (b, tg), _, t0, rfl, zom, hF7, ok7, hc7, hown7, fun b' t' h => by cases h; omega, hJ0, zom, stp, stp, stp, stp, stp, stp, Nat.zero_le _⟩
       ·clear q3 q4 q5 hF7 ok7 hc7 hown7 hb7;rintro i st ⟨tm, nx3, H3, ob3, v3, td, rfl, hle3, hF3, ok3', hc3, hown3, hob3, hJ, htl, q3, q4, q5, q59, q60, q61, hi⟩;by_cases hlt : i < rs.length
        ·obtain ⟨p, hp0, g⟩ := zS (htell H3 nx3 (hwf H3 nx3 hle3 hF3)).2 hlt;rw [List.drop_eq_getElem_cons hlt] at hJ;generalize rs[i] = m at *;refine zcR ?_;refine z1m ?_;subst hp0;refine zem ?_;refine z0F ?_
         repeat (first | refine zd (by exact z45) ?_ | refine Trip.seq ?_ | refine zm ?_ | refine Trip.block ?_ | (refine Trip.skip ?_; (change Trip _ _ _ _ _)))
         refine zd (zg (k := 4) (vs := Go.Am.e4 m) evr zxr rfl zxr g) ?_;refine OpsL.new zsd (zB (l := (rep 4 [.int .i64 0])) krf) ?_;refine OpsL.upd (zw (k := 4) (u := .agg (Go.Am.e4 m).toArray) evd evd zxr rfl (o := .cells (Go.Am.e4 m) 0 none false (some 106)) (zC (vs := (Go.Am.e4 m)) zb rfl rfl)) ?_;obtain ⟨G8, hG8⟩ : ∃ G0, G0 = (H3.put nx3 (.cells (rep 4 [.int .i64 0]) 0 none false (some 106))).put nx3 (.cells (Go.Am.e4 m) 0 none false (some 106)) := ⟨_, rfl⟩;have xG8 : Ext nx3 H3 (nx3 + 1) G8 := ⟨Nat.le_succ _, fun j hj => by rw [hG8, za zom, za zom]⟩;have kG8 : ∀ id o, G8 id = some o → id < nx3 + 1 := by rw [hG8]; exact zU (zF ok3') zb
         have bG8 : G8 nx3 = some (.cells (Go.Am.e4 m) 0 none false (some 106)) := by rw [hG8, zb]
         first | rw [← hG8] | skip
         clear hG8;refine z7A ?_;refine zd (zg (k := 4) (vs := Go.Am.e4 m) evd zxr rfl zxr (zG bG8 rfl)) ?_;have hf8 : FoundAt G8 (.map (some (nx + 1))) (F ++ [t]) := ⟨nx + 1, _, _, rfl, (xG8.2 _ zom).trans hc3⟩;refine OpsL.c2 (hf := z9p) (hc := (zgH W0 m hf8).ok) (h := ?_);rintro vA nA HA ⟨⟨rfl, xA⟩, okA⟩;have hxA := xG8.trans xA;have hbA : HA nx3 = some (.cells (Go.Am.e4 m) 0 none false (some 106)) := (xA.2 _ (Nat.lt_succ_self _)).trans bG8;have hlA := hxA.1;have hcA : HA (nx + 1) = some (.map ((F ++ [t]).map fun t => (thV t, .agg #[])) (List.range (F ++ [t]).length) (F ++ [t]).length) := (hxA.2 _ zom).trans hc3;have hFA : ∀ j, j < n2 + 1 → j ≠ nx + 1 → HA j = G3 j := fun j h1 h2 => by rw [hxA.2 j zom]; exact hF3 j h1 h2
         have hownA := OwnOf.ext hxA (fun b t h => (hob3 b t h).2) hown3;clear bG8 xG8 kG8 xA hf8 g hown3;by_cases hall : ∀ u ∈ z01 m, u ∈ F ++ [t]
         ·rw [decide_eq_true hall];refine z7z ?_;refine zcR ?_;refine zd (zg (k := 4) (vs := Go.Am.e4 m) evd zxr rfl zxr (zG hbA rfl)) ?_;refine z0c (hf := zay) (hc := (zhN W0 m).ok) (h := ?_);rintro vB nB HB ⟨⟨rfl, xB⟩, okB⟩;have hlB := xB.1;refine OpsL.new zsd (zB (l := (rep 4 [.int .i64 0])) krf) ?_;refine OpsL.upd (zw (k := 4) (u := .agg (z5z (z0m m)).toArray) evd evd zxr rfl (o := .cells (z5z (z0m m)) 0 none false (some 108)) (zC (vs := (z5z (z0m m))) zb rfl rfl)) ?_;obtain ⟨G9, hG9⟩ : ∃ G0, G0 = (HB.put nB (.cells (rep 4 [.int .i64 0]) 0 none false (some 108))).put nB (.cells (z5z (z0m m)) 0 none false (some 108)) := ⟨_, rfl⟩;have xG9 : Ext nB HB (nB + 1) G9 := ⟨Nat.le_succ _, fun j hj => by rw [hG9, za zom, za zom]⟩;have kG9 : ∀ id o, G9 id = some o → id < nB + 1 := by rw [hG9]; exact zU (zF okB) zb
          have bG9 : G9 nB = some (.cells (z5z (z0m m)) 0 none false (some 108)) := by rw [hG9, zb]
          first | rw [← hG9] | skip
          clear hG9
          repeat (first | refine zd (by exact omv) ?_ | refine zm ?_ | (refine OpsL.nil ?_; (change Trip _ _ _ _ _)))
          refine zd (z07 (r := .slice (some ⟨nB, 0, none⟩) 2 2) (a := none) (b := none) (c := none) evd rfl rfl rfl zdL) ?_;have hxG := xB.trans xG9;have hgl : (z0m m).length = 2 := rfl;refine zJ (us := z0m m) (bytes := 16) (z := rep 2 [.int .i64 0]) z1P z7Z zom zsd (OwnOf.ext hxG (fun b t h => by have := hob3 b t h; omega) hownA) (zeB rfl bG9) evd evd (fun b t h => by have := hob3 b t h; omega) zxr zxr zxr zxr zxr rfl zom zom ?_;intro v9 nx9 H9 ob9 hA9;have hl9 := hA9.le;have hf9 : ∀ j, j < n2 + 1 → H9 j = HA j := fun j hj => by rw [hA9.same j zom (fun b t h => by have := (hob3 b t h).1; omega), hxG.2 j zom]
          refine zg8 ?_;refine ⟨i + 1, ⟨_, nx9, H9, ob9, v9, td ++ z0m m, rfl, zom, fun j h1 h2 => by rw [hf9 j h1]; exact hFA j h1 h2, hA9.ok (fun b t h => by have := hob3 b t h; omega) kG9, (hf9 _ zom).trans hcA, hA9.own, fun b t h => ?_, hJ.yes hall, by rw [List.length_append]; omega, stp, stp, stp, stp, stp, stp, zom⟩, zom⟩;obtain ⟨q1, q2⟩ := hA9.blk b t h;refine ⟨?_, q1⟩;rcases q2 with rfl | ⟨t', h'⟩
          ·omega
          ·exact (hob3 _ _ h').1
         ·rw [decide_eq_false hall];refine z9K ?_;refine zcN ?_;exact ⟨i + 1, ⟨_, nA, HA, ob3, v3, td, rfl, zom, hFA, okA, hcA, hownA, fun b t h => by have := hob3 b t h; omega, hJ.no hall, zom, stp, stp, stp, stp, stp, stp, zom⟩, zom⟩
        ·have hin : i = rs.length := by omega
         subst hin;rw [List.drop_length] at hJ;refine z9O ?_;exact ⟨rfl, _, nx3, H3, ob3, v3, td, rfl, hle3, hF3, ok3', hc3, hown3, hob3, hJ, htl, stp, stp, stp⟩
      ·clear q3 q4 q5;rintro e st ⟨rfl, tm', nx3, H3, ob3, v3, td, rfl, hle3, hF3, ok3', hc3, hown3, hob3, hJ, htl, q3, q4, q5⟩
       ((repeat (first | refine z0e ?_ | refine zN ?_)); dsimp only)
       have hnew := zgu hun htF (show td.length ≤ t0.length + 2 * (z02 a).length by omega)
       repeat fail
       exact ⟨(F ++ [t], td), ⟨_, nx3, H3, ob3, v3, rfl, hle3, hF3, ok3', hc3, hown3, hob3, hJ.end, by show muF a (F ++ [t]) td ≤ 100000; omega, stp, stp, stp⟩, by show muF a (F ++ [t]) td < muF a F (t0 ++ [t]); omega⟩
end Go.Proofs.YteplpegfcpmflaaGreat
namespace Go.Am
open Go.RowKit
section
variable {P : Program} {W0 : World}
def zhd (st : ASt) (o : Oper) : Option Value :=
 match o.op with
 | .next it false => st.ev it
 | _ => none
theorem zcG {ops : Array Oper} {i : Nat} {l : List Nat} {o : Oper} {st : ASt} {it : Value} {rs : List (Value × Eff)} {Q : ASt → Prop} (ho : ops[i]? = some o) (hw : z0X ops st o = true) (hd : z1f st o = true)
  (hop : zhd st o = some it) (hn : z7d st.H it = some rs) (h : ∀ r ∈ rs, Ops P W0 ops l (st.put o.dst r.1 r.2) Q) : Ops P W0 ops (i :: l) st Q := by
 intro ρ C a w hr hs;simp only [wpOpsIn, ho, z23 hs ops o, hw, if_true];refine ⟨fun _ _ => trivial, ?_⟩;unfold zhd at hop;split at hop
 case h_2 => cases hop
 rename_i x hx;obtain ⟨⟨v, e⟩, hrr, hsnd⟩ := z9v (P := P) (ty := o.type) hs.rel hn (hs.ev x it hop);obtain ⟨n, v', w', C', hrun, hnn, hR, hS, hv⟩ := hsnd.toN;have hs' := hs.put (dst := o.dst) (z1c hd) hR hS hv
 have hnext : wpOpsIn (rf ρ) 0 P ops (Post W0 C st a.defers fun e s => e = .normal ∧ Q s) l (a.put o.dst v') w' :=
  z87 (st1 := st.put o.dst v e) (df := a.defers) hS rfl (.of_eq (z1b a o.dst v')) l ops _ w' (h (v, e) hrr ρ C' _ w' (hr.next hS) hs')
 have hrun' : (o.semAt (rf ρ).round a.eval).run P w = .ok n w' := by
  rw [Oper.semAt_eq _ a.eval o (fun d hd => by rw [hx] at hd; cases hd)];simp only [execOp, hx];exact hrun
 rw [hrun'];rcases hnn with rfl | ⟨rfl, rfl⟩
 ·exact hnext
 ·exact hnext
end
end Go.Am
namespace Go.Am
open Go.RowKit
section
variable {P : Program} {W0 : World}
variable {ops : Array Oper} {op : Op} {type : TypeId} {pos : String} {after : Array Edge} {l : List Oper} {tm : Nat → Value} {n nx : Nat} {H : Heap}
theorem zcA {id : Nat} {d : Tmp} {x : Operand} {it : Value} {rs : List (Value × Eff)} {Q : AExit → ASt → Prop} (hl : ops.toList = ⟨some d, .next x false, type, pos, after, none⟩ :: l) (hd : d < n)
  (hx : ASt.ev ⟨tm, n, H, nx⟩ x = some it) (hn : z7d H it = some rs) (h : ∀ r ∈ rs, OpsL P W0 ops l ⟨zk tm (some d) r.1, n, r.2.H nx H, r.2.nx nx⟩ (Q .normal)) : Trip P W0 (.region id ops false) ⟨tm, n, H, nx⟩ Q := by
 refine Trip.region ?_
 have h0 : ops[0]? = some ⟨some d, .next x false, type, pos, after, none⟩ := by
  have : ops.toList[0]? = some ⟨some d, .next x false, type, pos, after, none⟩ := by rw [hl]; rfl
  simpa using this
 have hs : List.range ops.size = 0 :: List.range' 1 l.length := by
  rw [← Array.length_toList, hl, List.range_eq_range', List.length_cons, List.range'_succ]
 rw [hs];exact zcG h0 rfl (by simp [z1f, hd]) hx hn fun r hr => zbG l 1 _ (by rw [hl]; rfl) (h r hr)
theorem zce {es : List (Value × Value)} : ∀ (s k : Nat) (i : Nat) (kv : Value × Value), i < k → es[i]? = some kv → (es.zip (List.range' s k)).find? (fun x => x.2 == s + i) = some (kv, s + i) := by
 induction es with
 | nil => intro s k i kv _ h; simp at h
 | cons e es ih =>
  intro s k i kv hi h;cases k with
  | zero => omega
  | succ k =>
   rw [List.range'_succ, List.zip_cons_cons];cases i with
   | zero =>
    simp only [List.getElem?_cons_zero, Option.some.injEq] at h;subst h;simp
   | succ i =>
    rw [List.find?_cons_of_neg (by simp), show s + (i + 1) = (s + 1) + i by omega];exact ih (s + 1) k i kv zom (by simpa using h)
theorem z8a {es : List (Value × Value)} {k : Nat} {x : (Value × Value) × Nat} (h : x ∈ es.zip (List.range k)) : x.2 < k ∧ es[x.2]? = some x.1 := by
 obtain ⟨i, hi, he⟩ := List.getElem_of_mem h;rw [List.getElem_zip] at he;subst he;rw [List.length_zip, List.length_range] at hi;simp only [List.getElem_range];exact ⟨zom, List.getElem?_eq_getElem zom⟩
theorem zc6 {r m k : Nat} {seen : List Nat} {es : List (Value × Value)} (hr : H r = some (.miter (some m) k seen k)) (hm : H m = some (.map es (List.range k) k)) (hl : es.length = k) :
  ∃ rs, z7d H (.pointer (some ⟨r, 0, none⟩)) = some rs ∧ ∀ x ∈ rs, (x = (.tuple #[.bool false], .none) ∧ ∀ i, i < k → i ∈ seen) ∨
   ∃ (i : Nat) (key val : Value), i < k ∧ i ∉ seen ∧ es[i]? = some (key, val) ∧ x = (.tuple #[.bool true, key, val], .upd r (.miter (some m) k (seen ++ [i]) k)) := by
 have hc : (((List.range k).all fun b => decide (b < k)) && (seen.isEmpty || (List.range k).isEmpty || (List.range k).any fun b => decide (b < k))) = true := by
  rw [Bool.and_eq_true];refine ⟨List.all_eq_true.2 fun b hb => by simpa using hb, ?_⟩;cases k with
  | zero => simp
  | succ k =>
   rw [Bool.or_eq_true];exact .inr (List.any_eq_true.2 ⟨0, by simp, by simp⟩)
 have hz : ∀ i, i < k → ∃ kv, (kv, i) ∈ es.zip (List.range k) ∧ es[i]? = some kv := fun i hi => by
  refine ⟨es[i]'zom, ?_, List.getElem?_eq_getElem zom⟩;refine List.mem_iff_getElem.2 ⟨i, by rw [List.length_zip, List.length_range]; omega, ?_⟩;rw [List.getElem_zip, List.getElem_range]
 unfold z7d;simp only [hr, hm, hc, if_true];cases hf : (es.zip (List.range k)).filter fun x => !seen.contains x.2 with
 | nil =>
  refine ⟨_, rfl, fun x hx => .inl ⟨List.mem_singleton.1 hx, fun i hi => ?_⟩⟩;obtain ⟨kv, h1, _⟩ := hz i hi;by_cases hs : i ∈ seen
  ·exact hs
  ·have : (kv, i) ∈ (es.zip (List.range k)).filter fun x => !seen.contains x.2 := List.mem_filter.2 ⟨h1, by simpa using hs⟩;rw [hf] at this;cases this
 | cons y ys =>
  refine ⟨_, rfl, fun x hx => ?_⟩;obtain ⟨z, hz1, rfl⟩ := List.mem_map.1 hx;rw [← hf] at hz1;obtain ⟨h1, h2⟩ := List.mem_filter.1 hz1;obtain ⟨h3, h4⟩ := z8a h1;exact .inr ⟨z.2, z.1.1, z.1.2, h3, by simpa using h2, h4, rfl⟩
theorem zck {r m k i : Nat} {seen : List Nat} {es : List (Value × Value)} {key val : Value} (hr : H r = some (.miter (some m) k (seen ++ [i]) k)) (hm : H m = some (.map es (List.range k) k)) (hi : i < k) (he : es[i]? = some (key, val)) :
  z7e H (.pointer (some ⟨r, 0, none⟩)) = some (.tuple #[key, val]) := by
 unfold z7e;have := zce 0 k i (key, val) hi he;rw [Nat.zero_add, ← List.range_eq_range'] at this;simp only [hr, hm, if_true, List.getLast?_append, List.getLast?_singleton, Option.some_or, this, Option.map_some]
variable {dst : Option Tmp} {guard : Option (Nat × Bool)} {ev : Operand → Option Value}
theorem zea {x : Operand} {v r : Value} (hx : ev x = some v) (h : z7e H v = some r) : aop P H nx ev ⟨dst, .entry x, type, pos, after, guard⟩ = some (r, .none) := by simp [aop, hx, h]
theorem zcv {x : Operand} {t k e : TypeId} {m : Nat} {es : List (Value × Value)} {bs : List Nat} {clk : Nat} (hx : ev x = some (.map (some m))) (hu : P.underlying t = some (.map k e)) (hm : H m = some (.map es bs clk)) :
  aop P H nx ev ⟨dst, .range t x, type, pos, after, guard⟩ = some (.pointer (some ⟨nx, 0, none⟩), .new (.miter (some m) clk [] clk)) := by simp [aop, hx, zb5, hu, hm]
end
end Go.Am
namespace Go.Am
open Go.RowKit
theorem zbp : ∀ (k : Nat) (l : List Nat), l.Nodup → (∀ i ∈ l, i < k) → l.length ≤ k := by
 intro k
 induction k with
 | zero =>
  intro l _ h;cases l with
  | nil => simp
  | cons x l => have := h x (by simp); omega
 | succ k ih =>
  intro l hn h
  have h1 := ih (l.erase k) (hn.erase k) (fun i hi => by
   have h2 := h i (List.mem_of_mem_erase hi);have h3 : i ≠ k := fun e => by subst e; exact hn.not_mem_erase hi
   omega)
  have := List.length_erase (a := k) (l := l);split at this <;> omega
def z5h (l : List Int) : List Int := l.mergeSort fun x y => decide (x ≤ y)
theorem z4e (l : List Int) : (z5h l).Perm l := List.mergeSort_perm _ _
theorem zeH {l : List Int} (h : l.Nodup) : (z5h l).Pairwise (· < ·) := by
 have h1 : (z5h l).Pairwise (fun x y => decide (x ≤ y) = true) := List.pairwise_mergeSort (fun a b c h1 h2 => by simp at *; omega) (fun a b => by simp; omega) l;have h2 : (z5h l).Nodup := (z4e l).nodup_iff.2 h;exact (h1.and h2).imp (fun {x y} h => by obtain ⟨h3, h4⟩ := h; simp at h3; omega)
def zdl (P : Program) (W0 : World) (f : FuncId) (el : TypeId) : Prop := ∀ (nx : Nat) (H : Heap) (ob : Option (Nat × Nat)) (v : Value) (l : List Int), OwnInts H ob el v l → l.length < 1000000000000 → ACalls P W0 f [v] nx H fun r nx' H' => r = .tuple #[] ∧ nx' = nx ∧ OwnInts H' ob el v (z5h l) ∧ ∀ k, (∀ b t, ob = some (b, t) → k ≠ b) → H' k = H k
structure Picked (F : List Thg) (kind : Int) (seen : List Nat) (xs : List Int) : Prop where
 nodup : xs.Nodup
 sn : seen.Nodup
 lt : ∀ i ∈ seen, i < F.length
 told : ∀ x, x ∈ xs ↔ ∃ i ∈ seen, F[i]? = some (kind, x)
 len : xs.length ≤ seen.length
theorem Picked.nil {F : List Thg} {kind : Int} : Picked F kind [] [] := ⟨List.nodup_nil, List.nodup_nil, by simp, by simp, by simp⟩
theorem z4G {F : List Thg} {kind : Int} {seen : List Nat} {i : Nat} (h : seen.Nodup) (hl : ∀ j ∈ seen, j < F.length) (hi : i < F.length) (hs : i ∉ seen) : (seen ++ [i]).Nodup ∧ ∀ j ∈ seen ++ [i], j < F.length := by
 refine ⟨?_, fun j hj => ?_⟩
 ·rw [List.nodup_append];exact ⟨h, by simp, fun a ha b hb => by rw [List.mem_singleton] at hb; subst hb; exact fun e => hs (e ▸ ha)⟩
 ·rcases List.mem_append.1 hj with h | h
  ·exact hl j h
  ·rw [List.mem_singleton] at h; omega
theorem Picked.old {F : List Thg} {kind : Int} {seen : List Nat} {xs : List Int} {i : Nat} {t : Thg} (h : Picked F kind seen xs) (hi : i < F.length) (hs : i ∉ seen) (ht : F[i]? = some t) (hk : ¬ t.1 = kind) : Picked F kind (seen ++ [i]) xs := by
 obtain ⟨h1, h2⟩ := z4G (kind := kind) h.sn h.lt hi hs;refine ⟨h.nodup, h1, h2, fun x => ?_, by rw [List.length_append]; have := h.len; omega⟩;rw [h.told x];constructor
 ·rintro ⟨j, hj, he⟩; exact ⟨j, by simp [hj], he⟩
 ·rintro ⟨j, hj, he⟩;rcases List.mem_append.1 hj with hj | hj
  ·exact ⟨j, hj, he⟩
  ·rw [List.mem_singleton] at hj; subst hj; rw [ht] at he; cases he; exact absurd rfl hk
theorem Picked.new {F : List Thg} {kind : Int} {seen : List Nat} {xs : List Int} {i : Nat} {t : Thg} (h : Picked F kind seen xs) (hF : F.Nodup) (hi : i < F.length) (hs : i ∉ seen) (ht : F[i]? = some t) (hk : t.1 = kind) : Picked F kind (seen ++ [i]) (xs ++ [t.2]) := by
 obtain ⟨h1, h2⟩ := z4G (kind := kind) h.sn h.lt hi hs;have hte : t = (kind, t.2) := by rw [← hk]
 have hnew : t.2 ∉ xs := fun hm => by
  obtain ⟨j, hj, he⟩ := (h.told _).1 hm;rw [← hte] at he;have := (List.getElem?_inj (h.lt j hj) hF).1 (he.trans ht.symm);subst this;exact hs hj
 refine ⟨?_, h1, h2, fun x => ?_, by rw [List.length_append, List.length_append]; have := h.len; simp; omega⟩
 ·rw [List.nodup_append];exact ⟨h.nodup, by simp, fun a ha b hb => by rw [List.mem_singleton] at hb; subst hb; exact fun e => hnew (e ▸ ha)⟩
 ·rw [List.mem_append, h.told x, List.mem_singleton];constructor
  ·rintro (⟨j, hj, he⟩ | rfl)
   ·exact ⟨j, by simp [hj], he⟩
   ·exact ⟨i, by simp, by rw [ht, ← hte]⟩
  ·rintro ⟨j, hj, he⟩;rcases List.mem_append.1 hj with hj | hj
   ·exact .inl ⟨j, hj, he⟩
   ·rw [List.mem_singleton] at hj; subst hj; rw [ht] at he; cases he; exact .inr rfl
theorem Picked.all {F : List Thg} {kind : Int} {seen : List Nat} {xs : List Int} (h : Picked F kind seen xs) (hall : ∀ i, i < F.length → i ∈ seen) : xs.Nodup ∧ ∀ x, x ∈ xs ↔ (kind, x) ∈ F := by
 refine ⟨h.nodup, fun x => ?_⟩;rw [h.told x];constructor
 ·rintro ⟨j, _, he⟩; exact List.mem_of_getElem? he
 ·intro hm;obtain ⟨j, hj, he⟩ := List.mem_iff_getElem.1 hm;exact ⟨j, hall j hj, by rw [List.getElem?_eq_getElem hj, he]⟩
end Go.Am
namespace Go.Proofs.YteplpegfcpmflaaGreat
open Go.RowKit Go.Am
attribute [local irreducible] aop OpsL Trip zI z2w OpsK OpsR
theorem z57 : Am.z0U Tryz.prog 26 := ⟨Tryz.f26, Tryz.func26, by kernel_rfl, by kernel_rfl⟩
theorem z9o : Am.z0U Tryz.prog 62 := ⟨Tryz.f62, Tryz.func62, by kernel_rfl, by kernel_rfl⟩
theorem zgh (H : Heap) (x y : Int) : aEq Tryz.prog H 60 3 (.int .i64 x) (.int .i64 y) = some (decide (x = y)) := by
 have key : aEq Tryz.prog H 60 3 (.int .i64 x) (.int .i64 y) = some (x == y) := by
  cases h : (x == y) <;> simp [aEq, h, Tryz.underlying3]
 rw [key];congr 1
theorem zcg (H : Heap) (k : Int) : ∀ (l : List (Value × Value)) (i : Nat), (∀ e ∈ l, ∃ y : Int, e.1 = .int .i64 y ∧ k ≠ y) → z1i Tryz.prog H 3 (.int .i64 k) l i = some none := by
 intro l
 induction l with
 | nil => intro i _; rfl
 | cons e l ih =>
  intro i h;obtain ⟨⟨y, hy, hne⟩, h2⟩ := List.forall_mem_cons.1 h;obtain ⟨a, b⟩ := e;dsimp only at hy;subst hy;simp only [z1i, zgh, decide_eq_false hne];exact ih (i + 1) h2
theorem za3 (k : Int) (H : Heap) : z1l Tryz.prog 60 3 (.int .i64 k) = true ∧ z8E H (.int .i64 k) = true := ⟨by kernel_rfl, by kernel_rfl⟩
def z9M (L : List Int) (i : Nat) : List (Value × Value) := (List.range i).map fun j => (.int .i64 (L.getD j 0), .int .i64 (j : Int))
theorem zdP (L : List Int) (i : Nat) : z9M L (i + 1) = z9M L i ++ [(.int .i64 (L.getD i 0), .int .i64 (i : Int))] := by
 unfold z9M;rw [List.range_succ, List.map_append];rfl
theorem zeU (L : List Int) (i : Nat) : (z9M L i).length = i := by simp [z9M]
theorem zeT {H : Heap} {m i : Nat} {L : List Int} (hm : H m = some (.map (z9M L i) (List.range i) i)) (hL : L.Pairwise (· < ·)) (hi : i < L.length) :
  zM Tryz.prog H 55 (.map (some m)) (.int .i64 L[i]) (.int .i64 (i : Int)) = some (.upd m (.map (z9M L (i + 1)) (List.range (i + 1)) (i + 1))) := by
 obtain ⟨c1, c2⟩ := za3 L[i] H
 have hno := zcg H L[i] (z9M L i) 0 (fun e he => by
  obtain ⟨j, hj, rfl⟩ := List.mem_map.1 he;have hj' : j < i := by simpa using hj
  refine ⟨_, rfl, ?_⟩;have := List.pairwise_iff_getElem.1 hL j i zom hi hj';rw [List.getD_eq_getElem?_getD, List.getElem?_eq_getElem zom, Option.getD_some];omega)
 unfold zM;simp only [Tryz.underlying55, hm, c1, c2, show (Tryz.prog.underlying 3).isSome = true from rfl, and_self, if_true, hno];rw [zdP, List.range_succ, List.getD_eq_getElem?_getD, List.getElem?_eq_getElem hi, Option.getD_some]
theorem zbm (W0 : World) (hsort : zdl Tryz.prog W0 62 3) {nx m : Nat} {H : Heap} {F : List Thg} {kind : Int} (hF : F.Nodup) (hl : F.length ≤ 1000000) (hm : H m = (some (.map (F.map fun t => (thV t, .agg #[])) (List.range F.length) F.length))) :
  ACalls Tryz.prog W0 26 [.map (some m), .int .i64 kind] nx H fun v nx' H' => ∃ (m2 : Nat) (L : List Int), v = .map (some m2) ∧ H' m2 = some (.map (z9M L L.length) (List.range L.length) L.length) ∧ L.Pairwise (· < ·) ∧ (∀ x, x ∈ L ↔ (kind, x) ∈ F) ∧ nx ≤ m2 ∧ m2 < nx' ∧ Ext nx H nx' H' := by
 refine zl (fn := Tryz.f26) (c := _) Tryz.func26 rfl (fun tm n hn0 htm => ?_);have q0 : tm 0 = .map (some m) := htm 0;have q1 : tm 1 = .int .i64 kind := htm 1;clear htm;replace hn0 : n = 40 := hn0;refine Trip.ok fun hok => ?_;replace hok : ∀ id o, H id = some o → id < nx := hok;have hmn : m < nx := hok _ _ hm;refine z5c ?_;refine OpsL.new zsd (zcv evd zxr hm) ?_;have ok1 := zF (o := .miter (some m) F.length [] F.length) hok;have hx1 : Ext nx H (nx + 1) (H.put nx (.miter (some m) F.length [] F.length)) := zh;have hi1 : (H.put nx (.miter (some m) F.length [] F.length)) nx = some (.miter (some m) F.length [] F.length) := zb;generalize H.put nx (.miter (some m) F.length [] F.length) = H1 at *
 repeat (first | refine Trip.block ?_ | (refine OpsL.nil ?_; (change Trip _ _ _ _ _)))
 refine zD (fun (seen : List Nat) st => ∃ (tm' : Nat → Value) (nx' : Nat) (H' : Heap) (ob : Option (Nat × Nat)) (v : Value) (xs : List Int), st = ⟨tm', n, H', nx'⟩ ∧ Ext nx H nx' H' ∧ nx + 1 ≤ nx' ∧ H' nx = some (.miter (some m) F.length seen F.length) ∧ OwnInts H' ob 3 v xs ∧ (∀ b t, ob = some (b, t) → nx + 1 ≤ b ∧ b < nx') ∧ Picked F kind seen xs ∧ tm' 1 = .int .i64 kind ∧ tm' 5 = v ∧ tm' 11 = .pointer (some ⟨nx, 0, none⟩)) (fun seen => F.length - seen.length) [] ?_ ?_
 ·exact ⟨_, _, _, none, _, [], rfl, hx1, zom, hi1, ⟨rfl, rfl, rfl⟩, fun _ _ h => (by cases h), Picked.nil, stp, stp, stp⟩
 ·clear q0 q1 hi1 ok1 hx1;rintro seen st ⟨tm, nx', H', ob, v, xs, rfl, hext, hle, hit, hown, hob, hP, q1, q5, q11⟩;refine Trip.ok fun hok' => ?_;replace hok' : ∀ id o, H' id = some o → id < nx' := hok';have hm' : H' m = (some (.map (F.map fun t => (thV t, .agg #[])) (List.range F.length) F.length)) := (hext.2 m hmn).trans hm;obtain ⟨rs, hn, hcs⟩ := zc6 hit hm' (by simp);refine Trip.seq ?_;refine zcA rfl zsd evd hn ?_;intro x hx;rcases hcs x hx with ⟨rfl, hall⟩ | ⟨i, key, val, hik, his, he, rfl⟩
  ·clear hcs hx hn;obtain ⟨hnd, hmem⟩ := hP.all hall;have hxl : xs.length ≤ F.length := by have := hP.len; have := zbp _ _ hP.sn hP.lt; omega
   have hLs := zeH hnd;have hLl : (z5h xs).length ≤ 1000000 := by rw [(z4e xs).length_eq]; omega
   have hLm : ∀ x, x ∈ z5h xs ↔ (kind, x) ∈ F := fun x => ((z4e xs).mem_iff).trans (hmem x);change OpsL _ _ _ _ ⟨zk tm (some 12) (.tuple #[.bool false]), n, H', nx'⟩ _;refine zd (v := .bool false) (zO evr zxr) ?_;refine zem ?_;refine z0a ?_;refine zfr ?_;refine z0c (hf := z9o) (hc := (hsort nx' H' ob v xs hown zom)) (h := ?_);rintro r nx2 H2 ⟨rfl, rfl, hown2, hsame⟩
   have ok2 : ∀ id o, H2 id = some o → id < nx2 := fun id o h => by
    by_cases hb : ∃ t, ob = some (id, t)
    ·obtain ⟨t, hb⟩ := hb; exact (hob _ _ hb).2
    ·rw [hsame id (fun b t h e => hb ⟨t, by rw [h, e]⟩)] at h; exact hok' _ _ h
   generalize z5h xs = L at *;refine zfn ?_;refine OpsL.new zsd z2f ?_;have gm : (H2.put nx2 (.map [] [] 0)) nx2 = some (.map [] [] 0) := zb;have hG : ∀ j, j ≠ nx2 → (H2.put nx2 (.map [] [] 0)) j = H2 j := fun j hj => za hj;generalize H2.put nx2 (.map [] [] 0) = G at *;have hownG : ∀ HH : Heap, (∀ j, j ≠ nx2 → HH j = H2 j) → OwnInts HH ob 3 v L := fun HH h => OwnRow.same (fun b t hb => h b (by have := hob b t hb; omega)) hown2;obtain ⟨va, vc, rfl⟩ := (hownG G hG).at.slice;refine z9I ?_;refine zD (fun (i : Nat) st => ∃ (tm' : Nat → Value) (H' : Heap), st = ⟨tm', n, H', nx2 + 1⟩ ∧ (∀ j, j ≠ nx2 → H' j = H2 j) ∧ H' nx2 = some (.map (z9M L i) (List.range i) i) ∧ tm' 7 = .map (some nx2) ∧ tm' 28 = .slice va L.length vc ∧ tm' 29 = .int .i64 L.length ∧ tm' 30 = .int .i64 i ∧ i ≤ L.length) (fun i => L.length - i) 0 ?_ ?_
   ·exact ⟨_, _, rfl, hG, gm, stp, stp, stp, stp, Nat.zero_le _⟩
   ·clear q1 q5 q11 gm hG;rintro i st ⟨tm, H5, rfl, hfr, hmp, q7, q28, q29, q30, hi⟩;by_cases hlt : i < L.length
    ·obtain ⟨p, rfl, hc⟩ := (hownG H5 hfr).at.get hlt;have hput := zeT hmp hLs hlt;replace hc : zj H5 ⟨p.block, p.off + (i : Int).toNat * 1, p.spot⟩ (.int .i64 L[i]) := by simpa using hc
     generalize L[i] = y at *;refine zft ?_;refine OpsL.upd (z1e evd evd evd hput) ?_;refine zfs ?_;exact ⟨i + 1, ⟨_, _, rfl, fun j hj => by rw [za hj]; exact hfr j hj, zb, stp, stp, stp, stp, zom⟩, zom⟩
    ·obtain rfl : i = L.length := by omega
     refine zaV ?_;refine z9P ?_;refine ⟨.inr rfl, _, zx, nx2, L, stp, hmp, hLs, hLm, zom, zom, zom, fun j hj => ?_⟩;rw [hfr j zom, hsame j (fun b t hb => by have := hob b t hb; omega), hext.2 j hj]
  ·clear hcs hx hn
   obtain ⟨t, ht, hkv⟩ : ∃ t, F[i]? = some t ∧ (thV t, Value.agg #[]) = (key, val) := by
    rw [List.getElem?_map] at he;cases hF : F[i]? with
    | none => rw [hF] at he; cases he
    | some t => rw [hF] at he; exact ⟨t, rfl, by simpa using he⟩
   cases hkv;obtain ⟨hn2, hl2⟩ := z4G (kind := kind) hP.sn hP.lt hik his;have hsl := zbp _ _ hn2 hl2;rw [List.length_append, List.length_singleton] at hsl;have hxl := hP.len;change OpsL _ _ _ _ ⟨zk tm (some 12) (.tuple #[.bool true, thV t, .agg #[]]), n, H'.put nx (.miter (some m) F.length (seen ++ [i]) F.length), nx'⟩ _;have hH2 : ∀ j, j ≠ nx → (H'.put nx (.miter (some m) F.length (seen ++ [i]) F.length)) j = H' j := fun j hj => za hj;have hit2 : (H'.put nx (.miter (some m) F.length (seen ++ [i]) F.length)) nx = some (.miter (some m) F.length (seen ++ [i]) F.length) := zb;have ok2 := zU (o := .miter (some m) F.length (seen ++ [i]) F.length) hok' hit;generalize H'.put nx (.miter (some m) F.length (seen ++ [i]) F.length) = H2 at *;refine zd (v := .bool true) (zO evr zxr) ?_;refine zem ?_;refine z0F ?_;refine zfX ?_;refine zd (zea evd (zck hit2 ((hH2 m zom).trans hm') hik (he : (F.map fun t => (thV t, Value.agg #[]))[i]? = _))) ?_;refine zd (v := thV t) (zO evr zxr) ?_;refine OpsL.new zsd (zB (l := (rep 2 [.int .i64 0])) krf) ?_;refine OpsL.upd (zw (k := 2) (u := thV t) evd evd zxr rfl (o := .cells (z1A t) 0 none false (some 101)) (zC (vs := (z1A t)) zb rfl rfl)) ?_;obtain ⟨G5, hG5⟩ : ∃ G0, G0 = (H2.put nx' (.cells (rep 2 [.int .i64 0]) 0 none false (some 101))).put nx' (.cells (z1A t) 0 none false (some 101)) := ⟨_, rfl⟩;have xG5 : Ext nx' H2 (nx' + 1) G5 := ⟨Nat.le_succ _, fun j hj => by rw [hG5, za zom, za zom]⟩;have kG5 : ∀ id o, G5 id = some o → id < nx' + 1 := by rw [hG5]; exact zU (zF ok2) zb
   have bG5 : G5 nx' = some (.cells (z1A t) 0 none false (some 101)) := by rw [hG5, zb]
   first | rw [← hG5] | skip
   clear hG5;have c0 : zj G5 ⟨nx', 0, none⟩ (.int .i64 t.1) := by exact ze bG5 rfl
   have c1 : zj G5 ⟨nx', 0 + 1, none⟩ (.int .i64 t.2) := by rw [Nat.zero_add]; exact ze bG5 rfl
   have hit5 := (xG5.2 nx zom).trans hit2;have hown5 : OwnInts G5 ob 3 v xs := OwnRow.same (fun b t hb => by rw [xG5.2 b (hob b t hb).2, hH2 b (by have := hob b t hb; omega)]) hown;have hext5 : Ext nx H (nx' + 1) G5 := ⟨zom, fun j hj => by rw [xG5.2 j zom, hH2 j zom, hext.2 j hj]⟩
   repeat (first | (refine zd (by first | exact omv | exact zfP | exact ofa | exact old) ?_) | refine Trip.seq ?_ | refine zm ?_ | refine z3s (fun _ => ?_) (fun _ => ?_) | (refine OpsL.nil ?_; (change Trip _ _ _ _ _)))
   ·rename_i hk;refine z2h zsd zsd evr (by decide) (by (simp only [zk, ↓reduceIte, reduceIte, Option.some.injEq, Nat.reduceEqDiff, *])) hown5 (fun b t hb => Nat.lt_succ_of_lt (hob b t hb).2) zxr zxr zxr zxr zom ?_;rintro v6 ob6 H6 hown6 ⟨b6, rfl, hb6⟩ hs6
    have hbb : nx + 1 ≤ b6 ∧ b6 < nx' + 1 + 1 + 1 := by
     rcases hb6 with rfl | ⟨t6, hb6⟩
     ·exact ⟨zom, zom⟩
     ·have := hob _ _ hb6; exact ⟨zom, zom⟩
    have hit6 := (hs6 nx zom (fun b t hb => by have := (hob b t hb).1; omega)).trans hit5;have hext6 : Ext nx H (nx' + 1 + 1 + 1) H6 := ⟨zom, fun j hj => by rw [hs6 j zom (fun b t hb => by have := (hob b t hb).1; omega)]; exact hext5.2 j hj⟩;have hP6 := hP.new hF hik his ht hk
    repeat (first | refine zd (by exact z0E) ?_ | (refine OpsL.nil ?_; ((repeat (refine zN ?_)); dsimp only)))
    refine ⟨seen ++ [i], ⟨_, _, _, some (b6, nx' + 1 + 1), v6, _, rfl, hext6, zom, hit6, hown6, fun b' t' h => by cases h; exact hbb, hP6, stp, stp, stp⟩, by show F.length - (seen ++ [i]).length < F.length - seen.length; rw [List.length_append, List.length_singleton]; omega⟩
   ·rename_i hk;have hP6 := hP.old hik his ht hk
    repeat (first | (refine Trip.skip ?_; ((repeat (refine zN ?_)); dsimp only)))
    exact ⟨seen ++ [i], ⟨_, _, _, ob, v, xs, rfl, hext5, zom, hit5, hown5, fun b' t' h => by have := hob _ _ h; omega, hP6, stp, stp, stp⟩, by show F.length - (seen ++ [i]).length < F.length - seen.length; rw [List.length_append, List.length_singleton]; omega⟩
end Go.Proofs.YteplpegfcpmflaaGreat
namespace Go.Proofs.YteplpegfcpmflaaGreat
open Go.RowKit Go.Am
attribute [local irreducible] aop OpsL Trip zI z2w OpsK OpsR
def z5M : List Int → Int → Nat → Option Nat
 | [], _, _ => none
 | y :: l, k, i => if k = y then some i else z5M l k (i + 1)
def zew : List Int → Nat → List (Value × Value)
 | [], _ => []
 | y :: l, i => (.int .i64 y, .int .i64 (i : Int)) :: zew l (i + 1)
theorem zeV : ∀ (l : List Int) (i j : Nat), (zew l i)[j]? = (l[j]?).map fun y => ((.int .i64 y, .int .i64 ((i + j : Nat) : Int)) : Value × Value) := by
 intro l
 induction l with
 | nil => intro i j; simp [zew]
 | cons y l ih =>
  intro i j;cases j with
  | zero => simp [zew]
  | succ j =>
   simp only [zew, List.getElem?_cons_succ, ih, show i + 1 + j = i + (j + 1) by omega]
theorem zds (L : List Int) : z9M L L.length = zew L 0 := by
 apply List.ext_getElem?;intro j;rw [zeV];unfold z9M;rw [List.getElem?_map];by_cases h : j < L.length
 ·rw [List.getElem?_eq_getElem (by simpa using h), List.getElem_range, List.getElem?_eq_getElem h];simp only [Option.map_some, List.getD_eq_getElem?_getD, List.getElem?_eq_getElem h, Option.getD_some, Nat.zero_add]
 ·rw [List.getElem?_eq_none (by simpa using Nat.le_of_not_lt h), List.getElem?_eq_none (Nat.le_of_not_lt h)];rfl
theorem z90 (H : Heap) (k : Int) : ∀ (l : List Int) (i j : Nat), z1i Tryz.prog H 3 (.int .i64 k) (zew l i) j = some ((z5M l k i).map fun p => (j + (p - i), Value.int .i64 (p : Int))) ∧ ∀ p, z5M l k i = some p → i ≤ p := by
 intro l
 induction l with
 | nil => intro i j; exact ⟨rfl, fun p h => by cases h⟩
 | cons y l ih =>
  intro i j;by_cases hk : k = y
  ·subst hk;refine ⟨?_, fun p h => by simp [z5M] at h; omega⟩;simp only [zew, z1i, zgh, decide_true, z5M, if_true, Option.map_some, Nat.sub_self, Nat.add_zero]
  ·obtain ⟨h1, h2⟩ := ih (i + 1) (j + 1);refine ⟨?_, fun p h => by simp only [z5M, hk, if_false] at h; have := h2 p h; omega⟩;simp only [zew, z1i, zgh, z5M, hk, if_false, decide_false, h1];cases hp : z5M l k (i + 1) with
   | none => rfl
   | some p =>
    have := h2 p hp;simp only [Option.map_some, show j + 1 + (p - (i + 1)) = j + (p - i) by omega]
def NumAt (H : Heap) (v : Value) (L : List Int) : Prop := ∃ m, v = .map (some m) ∧ H m = some (.map (z9M L L.length) (List.range L.length) L.length)
theorem NumAt.ext {nx nx' : Nat} {H H' : Heap} {v : Value} {L : List Int} (h : NumAt H v L) (hx : Ext nx H nx' H') (hok : ∀ id o, H id = some o → id < nx) : NumAt H' v L := by
 obtain ⟨m, h1, h2⟩ := h;exact ⟨m, h1, by rw [hx.2 m (hok _ _ h2)]; exact h2⟩
def z0p (L : List Int) (n : Int) : Option Int := (z5M L n 0).map fun p => (p : Int)
theorem NumAt.told {H : Heap} {v : Value} {L : List Int} (h : NumAt H v L) (n : Int) : z1Y Tryz.prog H 55 v (.int .i64 n) true = some (.tuple #[.int .i64 ((z0p L n).getD 0), .bool (z0p L n).isSome]) := by
 obtain ⟨m, rfl, hm⟩ := h;have hmo : z4N H (.map (some m)) = some (z9M L L.length) := by simp only [z4N, hm]
 obtain ⟨c1, _⟩ := za3 n H;unfold z1Y;simp only [Tryz.underlying55, hmo, show z6U Tryz.prog 3 = some (.int .i64 0) from rfl, c1, show (Tryz.prog.underlying 3).isSome = true from rfl, and_self, if_true, zds, (z90 H n L 0 0).1, z0p];cases z5M L n 0 <;> rfl
theorem NumAt.told1 {H : Heap} {v : Value} {L : List Int} (h : NumAt H v L) (n : Int) : z1Y Tryz.prog H 55 v (.int .i64 n) false = some (.int .i64 ((z0p L n).getD 0)) := by
 obtain ⟨m, rfl, hm⟩ := h;have hmo : z4N H (.map (some m)) = some (z9M L L.length) := by simp only [z4N, hm]
 obtain ⟨c1, _⟩ := za3 n H;unfold z1Y;simp only [Tryz.underlying55, hmo, show z6U Tryz.prog 3 = some (.int .i64 0) from rfl, c1, show (Tryz.prog.underlying 3).isSome = true from rfl, and_self, if_true, zds, (z90 H n L 0 0).1, z0p];cases z5M L n 0 <;> rfl
def zH (L l : List Int) : List Int := l.filterMap (z0p L)
theorem z5p (L : List Int) {l : List Int} {i : Nat} (h : i < l.length) : zH L (l.take (i + 1)) = zH L (l.take i) ++ (z0p L l[i]).toList := by
 unfold zH;rw [List.take_succ_eq_append_getElem h, List.filterMap_append];congr 1
theorem z3c : Am.z0U Tryz.prog 27 := ⟨Tryz.f27, Tryz.func27, by kernel_rfl, by kernel_rfl⟩
theorem zd9 (W0 : World) {nx : Nat} {H : Heap} {u v : Value} {L l : List Int} (hl : IntsAt H u l) (hll : l.length ≤ 1000000) (hv : NumAt H v L) :
  ACalls Tryz.prog W0 27 [u, v] nx H fun r nx' H' => ∃ ob, OwnInts H' ob 3 r (zH L l) ∧ (∀ b t, ob = some (b, t) → nx ≤ b ∧ b < nx') ∧ Ext nx H nx' H' := by
 refine zl (fn := Tryz.f27) (c := _) Tryz.func27 rfl (fun tm n hn0 htm => ?_);have q0 : tm 0 = u := htm 0;have q1 : tm 1 = v := htm 1;clear htm;replace hn0 : n = 29 := hn0;refine Trip.ok fun hok => ?_;replace hok : ∀ id o, H id = some o → id < nx := hok;obtain ⟨ua, uc, rfl⟩ := hl.slice;refine z9I ?_;refine zD (fun (i : Nat) st => ∃ (tm' : Nat → Value) (nx' : Nat) (H' : Heap) (ob : Option (Nat × Nat)) (r : Value), st = ⟨tm', n, H', nx'⟩ ∧ Ext nx H nx' H' ∧ OwnInts H' ob 3 r (zH L (l.take i)) ∧ (∀ b t, ob = some (b, t) → nx ≤ b ∧ b < nx') ∧ tm' 1 = v ∧ tm' 5 = r ∧ tm' 10 = .slice ua l.length uc ∧ tm' 11 = .int .i64 l.length ∧ tm' 12 = .int .i64 i ∧ i ≤ l.length) (fun i => l.length - i) 0 ?_ ?_
 ·exact ⟨_, _, _, none, _, rfl, Ext.refl, ⟨rfl, rfl, rfl⟩, fun _ _ h => (by cases h), stp, stp, stp, stp, stp, Nat.zero_le _⟩
 ·clear q0 q1;rintro i st ⟨tm, nx', H', ob, r, rfl, hext, hown, hob, q1, q5, q10, q11, q12, hi⟩;refine Trip.ok fun hok' => ?_;replace hok' : ∀ id o, H' id = some o → id < nx' := hok';have hle := hext.1
  have hkl : (zH L (l.take i)).length ≤ l.length := by
   have h1 : (zH L (l.take i)).length ≤ (l.take i).length := List.length_filterMap_le _ _;rw [List.length_take] at h1;omega
  by_cases hlt : i < l.length
  ·obtain ⟨p, rfl, hc⟩ := hl.get hlt;have hkt := (hv.ext hext hok).told l[i];have hks := z5p L hlt
   replace hc : zj H' ⟨p.block, p.off + (i : Int).toNat * 1, p.spot⟩ (.int .i64 l[i]) := by
    have := z1O hext hok hc;simpa [zj] using this
   generalize l[i] = y at *;refine zft ?_;refine zd (z0j evd evd hkt) ?_;cases hy : z0p L y with
   | none =>
    rw [hy, Option.toList_none, List.append_nil] at hks;simp only [Option.getD_none, Option.isSome_none];refine z7y ?_;refine zd (v := .int .i64 0) (zO evr zxr) ?_;refine zd (v := .bool false) (zO evr zxr) ?_;refine z5c ?_;refine zcN ?_;exact ⟨i + 1, ⟨_, _, _, ob, r, rfl, hext, by rw [hks]; exact hown, hob, stp, stp, stp, stp, stp, zom⟩, zom⟩
   | some z =>
    rw [hy, Option.toList_some] at hks;simp only [Option.getD_some, Option.isSome_some];refine z7y ?_;refine zd (v := .int .i64 z) (zO evr zxr) ?_;refine zd (v := .bool true) (zO evr zxr) ?_;refine z5c ?_;refine z0F ?_;refine zbP ?_;refine z2h zsd zsd evr (by decide) (by (simp only [zk, ↓reduceIte, reduceIte, Option.some.injEq, Nat.reduceEqDiff, *])) hown (fun b t hb => (hob b t hb).2) zxr zxr zxr zxr zom ?_;rintro v6 ob6 H6 hown6 ⟨b6, rfl, hb6⟩ hs6
    have hbb : nx ≤ b6 ∧ b6 < nx' + 1 + 1 := by
     rcases hb6 with rfl | ⟨t6, hb6⟩
     ·exact ⟨zom, zom⟩
     ·have := hob _ _ hb6; exact ⟨zom, zom⟩
    have hext6 : Ext nx H (nx' + 1 + 1) H6 := ⟨zom, fun j hj => by rw [hs6 j zom (fun b t hb => by have := (hob b t hb).1; omega)]; exact hext.2 j hj⟩;refine zg8 ?_;exact ⟨i + 1, ⟨_, _, _, some (b6, nx' + 1), v6, rfl, hext6, by rw [hks]; exact hown6, fun b' t' h => by cases h; exact hbb, stp, stp, stp, stp, stp, zom⟩, zom⟩
  ·have hin : i = l.length := by omega
   subst hin;rw [List.take_length] at hown;refine zaV ?_;refine z9P ?_;exact ⟨.inr rfl, _, zx, ob, stp, hob, hext⟩
end Go.Proofs.YteplpegfcpmflaaGreat
namespace Go.Proofs.YteplpegfcpmflaaGreat
open Go.RowKit Go.Am
theorem z6n {α : Type} [DecidableEq α] : ∀ (l m : List α), l.Nodup → (∀ x ∈ l, x ∈ m) → l.length ≤ m.length := by
 intro l
 induction l with
 | nil => intro m _ _; simp
 | cons x l ih =>
  intro m hn h;obtain ⟨h1, h2⟩ := List.nodup_cons.1 hn;have hx := h x (by simp)
  have := ih (m.erase x) h2 (fun y hy => by
   have hne : y ≠ x := fun e => h1 (e ▸ hy);exact (List.mem_erase_of_ne hne).2 (h y (by simp [hy])))
  rw [List.length_erase_of_mem hx] at this;have := List.length_pos_of_mem hx;simp only [List.length_cons];omega
theorem z7i {a : Aut} {t : Thg} (h : ReachT a t) : t ∈ z8w a := by
 cases h with
 | bot => simp [z8w]
 | init hs => simp only [z8w, List.mem_append, List.mem_cons, List.mem_map]; exact .inl (.inr ⟨_, hs, rfl⟩)
 | step hm _ ht => simp only [z8w, List.mem_append, List.mem_flatMap]; exact .inr ⟨_, hm, ht⟩
theorem zbe {a : Aut} (hn : AutLen a) : (z8w a).length ≤ 10000 := by
 have h1 := z4h hn;have h2 := hn.init
 have h3 : ∀ l : List R4, (l.flatMap z0m).length = 2 * l.length := fun l => by
  induction l with
  | nil => rfl
  | cons x l ih => simp only [List.flatMap_cons, List.length_append, ih, List.length_cons]; have : (z0m x).length = 2 := rfl; omega
 simp only [z8w, List.length_append, List.length_cons, List.length_map, h3];omega
theorem zdX {a : Aut} {F : List Thg} (hn : AutLen a) (hF : F.Nodup) (hr : ∀ t, t ∈ F ↔ ReachT a t) : F.length ≤ 10000 :=
 Nat.le_trans (z6n F (z8w a) hF fun t ht => z7i ((hr t).1 ht)) (zbe hn)
def z0R (L0 L1 : List Int) (r : R4) : Option R4 := (z0p L0 r.1).map fun f => (f, r.2.1, (z0p L0 r.2.2.1).getD 0, (z0p L1 r.2.2.2).getD 0)
def z16 (L0 L1 : List Int) (r : R4) : Option R4 := (z0p L0 r.1).bind fun f => (z0p L1 r.2.2.1).map fun t => (f, r.2.1, t, (z0p L0 r.2.2.2).getD 0)
def z2o (L0 : List Int) (r : R3) : Option R3 := (z0p L0 r.1).map fun f => (f, r.2.1, (z0p L0 r.2.2).getD 0)
def z0b (a : Aut) (L0 L1 : List Int) : Aut := ⟨L0.length, (L1.length : Int) - 1, zH L0 a.init, zH L0 a.final, a.opens.filterMap (z0R L0 L1), a.closes.filterMap (z16 L0 L1), a.inners.filterMap (z2o L0)⟩
def z1k (a : Aut) (kind : Int) (L : List Int) : Prop := L.Pairwise (· < ·) ∧ ∀ x, x ∈ L ↔ ReachT a (kind, x)
theorem zbl {a : Aut} {kind : Int} {L : List Int} (hn : AutLen a) (h : z1k a kind L) : L.length ≤ 10000 := by
 have h1 : (L.map fun x => ((kind, x) : Thg)).Nodup := by
  rw [List.nodup_iff_pairwise_ne, List.pairwise_map];exact h.1.imp fun {x y} hlt e => by cases e; omega
 have := z6n _ (z8w a) h1 (fun t ht => by
  obtain ⟨x, hx, rfl⟩ := List.mem_map.1 ht;exact z7i ((h.2 x).1 hx))
 rw [List.length_map] at this;exact Nat.le_trans this (zbe hn)
theorem z1d {α β : Type} (f : α → Option β) {l : List α} {i : Nat} (h : i < l.length) : (l.take (i + 1)).filterMap f = (l.take i).filterMap f ++ (f l[i]).toList := by
 rw [List.take_succ_eq_append_getElem h, List.filterMap_append];congr 1
section
variable {P : Program} {H : Heap} {nx : Nat} {ev : Operand → Option Value} {dst : Option Tmp} {type : TypeId} {pos : String} {after : Array Edge} {guard : Option (Nat × Bool)}
theorem zfe {t k e : TypeId} {x : Operand} {m : Nat} {es : List (Value × Value)} {bs : List Nat} {clk : Nat} (hx : ev x = some (.map (some m))) (hu : P.underlying t = some (.map k e)) (hm : H m = some (.map es bs clk)) :
  aop P H nx ev ⟨dst, .call ⟨.builtin .len, #[x], #[t]⟩, type, pos, after, guard⟩ = some (.int .i64 es.length, .none) := by simp [aop, hx, z0C, z0G, zgQ, hu, z4N, hm]
end
end Go.Proofs.YteplpegfcpmflaaGreat
namespace Go.Proofs.YteplpegfcpmflaaGreat
open Go.RowKit Go.Am
attribute [local irreducible] aop OpsL Trip zI z2w OpsK OpsR
theorem zaf {a : Aut} (hi0 : ∀ s, ¬ s ∈ a.init) (hm0 : ∀ m, ¬ m ∈ z02 a) (t : Thg) : t ∈ [((1, 0) : Thg)] ↔ ReachT a t := by
 constructor
 ·intro h;rw [List.mem_singleton] at h;subst h;exact .bot
 ·intro h;cases h with
  | bot => simp
  | init hs => exact absurd hs (hi0 _)
  | step hm _ _ => exact absurd hm (hm0 _)
theorem zhO (W0 : World) {nx : Nat} {H : Heap} {a : Aut} {vi vf vo vc vn : Value} (ha : AutIn H a vi vf vo vc vn) (hn : AutLen a) (hi0 : ∀ s, ¬ s ∈ a.init) (hm0 : ∀ m, ¬ m ∈ z02 a) :
  ACalls Tryz.prog W0 25 [.agg (zy a vi vf vo vc vn).toArray] nx H fun v nx' H' => ∃ (m : Nat) (F : List Thg), v = .map (some m) ∧ H' m = some (.map (F.map fun t => (thV t, .agg #[])) (List.range F.length) F.length) ∧ F.Nodup ∧ (∀ t, t ∈ F ↔ ReachT a t) ∧ nx ≤ m ∧ m < nx' ∧ Ext nx H nx' H' := by
 obtain ⟨ai, ci, rfl⟩ := ha.init.slice;obtain ⟨af, cf, rfl⟩ := ha.final.slice;obtain ⟨ao, co, rfl⟩ := ha.opens.slice;obtain ⟨ac, cc, rfl⟩ := ha.closes.slice;obtain ⟨an, cn, rfl⟩ := ha.inners.slice;refine zl (fn := Tryz.f25) (c := _) Tryz.func25 rfl (fun tm n hn0 htm => ?_);have q0 : tm 0 = .agg (zy a (.slice ai a.init.length ci) (.slice af a.final.length cf) (.slice ao a.opens.length co) (.slice ac a.closes.length cc) (.slice an a.inners.length cn)).toArray := htm 0;clear htm;replace hn0 : n = 75 := hn0;refine Trip.ok fun hok => ?_;replace hok : ∀ id o, H id = some o → id < nx := hok;refine z5L ?_;refine OpsL.new zsd (z0f evr) ?_;have hx0 : Ext nx H (nx + 1) (H.put nx (.cells (Value.agg (zy a (.slice ai a.init.length ci) (.slice af a.final.length cf) (.slice ao a.opens.length co) (.slice ac a.closes.length cc) (.slice an a.inners.length cn)).toArray).cells.toList 0 none false (some 30))) := zh;have gx : (H.put nx (.cells (Value.agg (zy a (.slice ai a.init.length ci) (.slice af a.final.length cf) (.slice ao a.opens.length co) (.slice ac a.closes.length cc) (.slice an a.inners.length cn)).toArray).cells.toList 0 none false (some 30))) nx = some (.cells (zy a (.slice ai a.init.length ci) (.slice af a.final.length cf) (.slice ao a.opens.length co) (.slice ac a.closes.length cc) (.slice an a.inners.length cn)) 0 none false (some 30)) := zb;have ok0 := zF (o := .cells (Value.agg (zy a (.slice ai a.init.length ci) (.slice af a.final.length cf) (.slice ao a.opens.length co) (.slice ac a.closes.length cc) (.slice an a.inners.length cn)).toArray).cells.toList 0 none false (some 30)) hok;generalize H.put nx (.cells (Value.agg (zy a (.slice ai a.init.length ci) (.slice af a.final.length cf) (.slice ao a.opens.length co) (.slice ac a.closes.length cc) (.slice an a.inners.length cn)).toArray).cells.toList 0 none false (some 30)) = G at *;refine z8v ?_;refine OpsL.new zsd z2f ?_;have hx1 : Ext (nx + 1) G (nx + 1 + 1) (G.put (nx + 1) (.map [] [] 0)) := zh;have gm : (G.put (nx + 1) (.map [] [] 0)) (nx + 1) = some (.map [] [] 0) := zb;have ok1 := zF (o := .map [] [] 0) ok0;generalize G.put (nx + 1) (.map [] [] 0) = G1 at *;have gx1 := (hx1.2 nx zom).trans gx;have ha1 := ha.ext (hx0.trans hx1) hok
 repeat fail
 refine zd (zg (k := 7) (vs := zy a (.slice ai a.init.length ci) (.slice af a.final.length cf) (.slice ao a.opens.length co) (.slice ac a.closes.length cc) (.slice an a.inners.length cn)) evd zxr rfl zxr (zG gx1 rfl)) ?_;refine z0c (hf := z6A) (hc := (zfE W0 ha1 hn).ok) (h := ?_);rintro v1 n1 H1 ⟨⟨ob1, w1, x1, b1⟩, ok1'⟩;refine z0c (hf := z55) (hc := (zbd W0 (w1.at z0y) (z4h hn)).ok) (h := ?_);rintro v2 n2 H2 ⟨⟨W, rfl, hw, x2⟩, ok2⟩;have hle1 := x1.1;have hle2 := x2.1;have gm2 : H2 (nx + 1) = some (.map [] [] 0) := by rw [x2.2 _ zom, x1.2 _ zom]; exact gm
 have gx2 : H2 nx = some (.cells (zy a (.slice ai a.init.length ci) (.slice af a.final.length cf) (.slice ao a.opens.length co) (.slice ac a.closes.length cc) (.slice an a.inners.length cn)) 0 none false (some 30)) := by rw [x2.2 _ zom, x1.2 _ zom]; exact gx1
 have ha2 := ha1.ext (x1.trans x2) ok1;have hxH : Ext nx H n2 H2 := ((hx0.trans hx1).trans x1).trans x2;clear gx gx1 gm w1 b1 ha ha1 x1 x2 hx0 hx1 ok0 ok1 ok1';refine z8v ?_;refine zd (zE (v := thV (1, 0)) (l := [(0, .int .i64 1), (1, .int .i64 0)]) zep krf) ?_;refine OpsL.new zsd (zq (l := [(0, thV (1, 0))]) (r := (.slice (some ⟨n2, 0, none⟩) 1 1, .new (.cells (z1A (1, 0)) 2 none false (some 101)))) zeq krf) ?_;have x3 : Ext n2 H2 (n2 + 1) (H2.put n2 (.cells (z1A (1, 0)) 2 none false (some 101))) := zh;have gt : (H2.put n2 (.cells (z1A (1, 0)) 2 none false (some 101))) n2 = some (.cells (z1A (1, 0)) 2 none false (some 101)) := zb;have ok3 := zF (o := .cells (z1A (1, 0)) 2 none false (some 101)) ok2;generalize H2.put n2 (.cells (z1A (1, 0)) 2 none false (some 101)) = G3 at *;have gx3 := (x3.2 nx zom).trans gx2;have gm3 := (x3.2 (nx + 1) zom).trans gm2;have ha3 := ha2.ext x3 ok2;have hw3 := hw.ext x3;have ci0 : zj G3 ⟨nx, 0 + 2, none⟩ (.slice ai a.init.length ci) := by rw [Nat.zero_add]; exact ze gx3 rfl
 have hli := hn.init;clear gx2 gm2 hw ha2 ok2;refine zid ?_;have hl0 : ¬ 0 < a.init.length := fun h => hi0 _ (List.getElem_mem h);refine Trip.mono (Q := fun e st => e = .exit 0 ∧ ∃ (tm' : Nat → Value), st = ⟨tm', n, G3, n2 + 1⟩ ∧ tm' 3 = .map (some (nx + 1)) ∧ tm' 4 = .map (some n1) ∧ tm' 5 = .slice (some ⟨n2, 0, none⟩) 1 1) ?_ ?_
 ·refine zD (fun (i : Nat) st => ∃ (tm' : Nat → Value), st = ⟨tm', n, G3, n2 + 1⟩ ∧ tm' 3 = .map (some (nx + 1)) ∧ tm' 4 = .map (some n1) ∧ tm' 5 = .slice (some ⟨n2, 0, none⟩) 1 1 ∧ tm' 22 = .int .i64 a.init.length ∧ tm' 23 = .int .i64 0) (fun _ => 0) 0 ?_ ?_
  ·exact ⟨_, rfl, stp, stp, stp, stp, stp⟩
  ·rintro i st ⟨tm, rfl, q3, q4, q5, q22, q23⟩;refine z9O ?_;exact ⟨rfl, _, rfl, stp, stp, stp⟩
 rintro e st ⟨rfl, tm', rfl, q3, q4, q5⟩;refine z5e ?_;have hc3 : G3 (nx + 1) = some (.map (([] : List Thg).map fun t => (thV t, .agg #[])) (List.range ([] : List Thg).length) ([] : List Thg).length) := gm3;have hle12 : nx + 1 + 1 ≤ n2 := by omega
 clear ci0 gx3
 repeat (first | refine Trip.seq ?_ | refine Trip.block ?_)
 refine zD (fun (p : Nat) st => ∃ (tm' : Nat → Value) (nx' : Nat) (H' : Heap), st = ⟨tm', n, H', nx'⟩ ∧ n2 + 1 ≤ nx' ∧ (∀ j, j < n2 + 1 → j ≠ nx + 1 → H' j = G3 j) ∧ (∀ id o, H' id = some o → id < nx') ∧ H' (nx + 1) = some (.map ((([((1, 0) : Thg)] : List Thg).take p).map fun t => (thV t, .agg #[])) (List.range (([((1, 0) : Thg)] : List Thg).take p).length) (([((1, 0) : Thg)] : List Thg).take p).length) ∧ tm' 3 = .map (some (nx + 1)) ∧ tm' 4 = .map (some n1) ∧ tm' 5 = .slice (some ⟨n2, 0, none⟩) (1 - p) 1 ∧ p ≤ 1) (fun p => 1 - p) 0 ?_ ?_
 ·exact ⟨_, _, _, rfl, Nat.le_refl _, fun _ _ _ => rfl, ok3, hc3, stp, stp, stp, Nat.zero_le _⟩
 ·clear q3 q4 q5 hc3 ok3 gm3;rintro p st ⟨tm, nx', H', rfl, hle, hFr, hok', hcell, q3, q4, q5, hp⟩;by_cases h0 : p = 0
  ·subst h0
   have hg : z0M H' ⟨n2, 0 + ((1 : Int) - 1).toNat * 2, none⟩ 2 = some (z1A (1, 0)) := by
    unfold z0M;simp only [(hFr n2 zom zom).trans gt];rfl
   have q5' : tm 5 = .slice (some ⟨n2, 0, none⟩) 1 1 := q5;clear q5;refine ziF ?_;refine OpsL.new zsd (zB (l := (rep 2 [.int .i64 0])) krf) ?_;refine OpsL.upd (zw (k := 2) (u := thV (1, 0)) evd evr zxr rfl (o := .cells (z1A (1, 0)) 0 none false (some 101)) (zC (vs := (z1A (1, 0))) zb rfl rfl)) ?_;obtain ⟨G5, hG5⟩ : ∃ G0, G0 = (H'.put nx' (.cells (rep 2 [.int .i64 0]) 0 none false (some 101))).put nx' (.cells (z1A (1, 0)) 0 none false (some 101)) := ⟨_, rfl⟩;have xG5 : Ext nx' H' (nx' + 1) G5 := ⟨Nat.le_succ _, fun j hj => by rw [hG5, za zom, za zom]⟩;have kG5 : ∀ id o, G5 id = some o → id < nx' + 1 := by rw [hG5]; exact zU (zF hok') zb
   have bG5 : G5 nx' = some (.cells (z1A (1, 0)) 0 none false (some 101)) := by rw [hG5, zb]
   rw [← hG5];clear hG5 hg;have g52 : G5 n2 = some (.cells (z1A (1, 0)) 2 none false (some 101)) := by rw [xG5.2 n2 zom, hFr n2 zom zom]; exact gt
   have hsl : z0Q Tryz.prog G5 102 (.slice (some ⟨n2, 0, none⟩) 1 1) none (some (.int .i64 ((1 : Int) - 1))) none = some (.slice (some ⟨n2, 0, none⟩) 0 1) := by
    have := z5J (P := Tryz.prog) (H := G5) (t := 102) (el := 101) (sz := 2) (a := ⟨n2, 0, none⟩) (len := 1) (cap := 1) (l := 0) (h := 0) (lo := none) (hi := some (.int .i64 ((1 : Int) - 1))) zxr zxr g52 rfl rfl (.inl ⟨rfl, rfl⟩) (.inr ⟨.i64, rfl⟩) (Nat.le_refl _) (Nat.zero_le _)
    rwa [if_neg zom] at this
   repeat (first | (refine zd (by first | exact omv | exact z2i | exact z7C) ?_) | refine Trip.seq ?_ | refine zm ?_ | (refine OpsL.nil ?_; (change Trip _ _ _ _ _)))
   refine zd (z07 (r := .slice (some ⟨n2, 0, none⟩) 0 1) (a := none) (b := some (.int .i64 ((1 : Int) - 1))) (c := none) evd rfl (by simp only [z2l, ASt.ev, zk, ↓reduceIte, reduceIte, Option.some.injEq, Nat.reduceEqDiff, Option.map_some, *] <;> rfl) rfl hsl) ?_;have hcell5 : G5 (nx + 1) = some (.map (([] : List Thg).map fun t => (thV t, .agg #[])) (List.range ([] : List Thg).length) ([] : List Thg).length) := (xG5.2 _ zom).trans hcell;have hF5 : FoundAt G5 (.map (some (nx + 1))) [] := ⟨nx + 1, _, _, rfl, hcell5⟩;refine z5c ?_;refine zd (zg (k := 2) (vs := z1A (1, 0)) evd zxr rfl zxr (zG bG5 rfl)) ?_;refine zd (z0j evd evr (hF5.told (1, 0))) ?_;refine zfZ ?_;refine OpsL.new zsd (zB (l := []) krf) ?_;refine OpsL.upd (zw (k := 0) (u := .agg #[]) evd evr zxr rfl (o := .cells [] 0 none false (some 103)) (zC (vs := []) zb rfl rfl)) ?_;obtain ⟨G6, hG6⟩ : ∃ G0, G0 = (G5.put (nx' + 1) (.cells [] 0 none false (some 103))).put (nx' + 1) (.cells [] 0 none false (some 103)) := ⟨_, rfl⟩;have xG6 : Ext (nx' + 1) G5 ((nx' + 1) + 1) G6 := ⟨Nat.le_succ _, fun j hj => by rw [hG6, za zom, za zom]⟩;have kG6 : ∀ id o, G6 id = some o → id < (nx' + 1) + 1 := by rw [hG6]; exact zU (zF kG5) zb
   rw [← hG6];clear hG6;have hc6 := (xG6.2 (nx + 1) zom).trans hcell5;have hb6 := (xG6.2 nx' (Nat.lt_succ_self _)).trans bG5;have hF6 : ∀ j, j < n2 + 1 → j ≠ nx + 1 → G6 j = G3 j := fun j h1 h2 => by rw [xG6.2 _ zom, xG5.2 _ zom]; exact hFr j h1 h2
   simp only [List.not_mem_nil, decide_false];refine z5c ?_;refine z0a ?_;refine zfq ?_;refine zd (zg (k := 2) (vs := z1A (1, 0)) evd zxr rfl zxr (zG hb6 rfl)) ?_;refine zd (zE (v := .agg #[]) (l := []) (by simp only [z0h]) krf) ?_;have hupd : zM Tryz.prog G6 53 (.map (some (nx + 1))) (thV (1, 0)) (.agg #[]) = some (.upd (nx + 1) (.map (([((1, 0) : Thg)] : List Thg).map fun t => (thV t, .agg #[])) (List.range 1) 1)) := FoundAt.put hc6 (by simp);refine OpsL.upd (z1e evd evr evd hupd) ?_;obtain ⟨G7, hG7⟩ : ∃ G0, G0 = G6.put (nx + 1) (.map (([((1, 0) : Thg)] : List Thg).map fun t => (thV t, .agg #[])) (List.range 1) 1) := ⟨_, rfl⟩;have hc7 : G7 (nx + 1) = some (.map (([((1, 0) : Thg)] : List Thg).map fun t => (thV t, .agg #[])) (List.range 1) 1) := by rw [hG7, zb]
   have ok7 : ∀ id o, G7 id = some o → id < nx' + 1 + 1 := by rw [hG7]; exact zU kG6 hc6
   have hF7 : ∀ j, j < n2 + 1 → j ≠ nx + 1 → G7 j = G3 j := fun j h1 h2 => by rw [hG7, za h2]; exact hF6 j h1 h2
   have hb7 : G7 nx' = some (.cells (z1A (1, 0)) 0 none false (some 101)) := by rw [hG7, za zom]; exact hb6
   rw [← hG7];clear hG7 hupd hc6 hb6 hF6 kG6 xG6 xG5 kG5 bG5 g52 hsl hcell5 hF5;obtain ⟨r, htell⟩ := hw3.tells (1, 0);have hwf : WaitIn G7 n1 n1 (nx' + 1 + 1) (z4K (z02 a)) W := hw3.framed (fun j h3 h4 => hF7 j h4 zom) zom;have hw0 : z4K (z02 a) (1, 0) = [] := List.eq_nil_iff_forall_not_mem.2 fun m hm => hm0 m (List.mem_filter.1 hm).1;refine z7A ?_;refine zd (zg (k := 2) (vs := z1A (1, 0)) evd zxr rfl zxr (zG hb7 rfl)) ?_;refine zd (z0j evd evr (htell G7 _ hwf).1) ?_;have hrr := (htell G7 _ hwf).2;rw [hw0] at hrr;obtain ⟨ra, rc, rfl⟩ := hrr.slice
   repeat (first | (refine zd (by first | exact omv | exact z2i) ?_) | refine Trip.block ?_ | (refine OpsL.nil ?_; (change Trip _ _ _ _ _)))
   refine Trip.mono (Q := fun e st => e = .exit 4 ∧ ∃ (tm' : Nat → Value), st = ⟨tm', n, G7, nx' + 1 + 1⟩ ∧ tm' 3 = .map (some (nx + 1)) ∧ tm' 4 = .map (some n1) ∧ tm' 5 = .slice (some ⟨n2, 0, none⟩) 0 1) ?_ ?_
   ·refine zD (fun (i : Nat) st => ∃ (tm' : Nat → Value), st = ⟨tm', n, G7, nx' + 1 + 1⟩ ∧ tm' 3 = .map (some (nx + 1)) ∧ tm' 4 = .map (some n1) ∧ tm' 5 = .slice (some ⟨n2, 0, none⟩) 0 1 ∧ tm' 60 = .int .i64 0 ∧ tm' 61 = .int .i64 0) (fun _ => 0) 0 ?_ ?_
    ·exact ⟨_, rfl, stp, stp, stp, stp, stp⟩
    ·clear q3 q4 q5';rintro i st ⟨tm', rfl, q3, q4, q5, q60, q61⟩;refine z9O ?_;exact ⟨rfl, _, rfl, stp, stp, stp⟩
   clear q3 q4 q5';rintro e st ⟨rfl, tm', rfl, q3, q4, q5⟩
   ((repeat (first | refine z0e ?_ | refine zN ?_)); dsimp only)
   repeat fail
   exact ⟨1, ⟨_, _, _, rfl, zom, hF7, ok7, hc7, stp, stp, stp, Nat.le_refl _⟩, zom⟩
  ·have h1 : p = 1 := by omega
   subst h1;have q5' : tm 5 = .slice (some ⟨n2, 0, none⟩) 0 1 := q5;clear q5;refine z5f ?_;refine z2e ?_;refine z8A ?_;refine z9P ?_;refine ⟨.inr rfl, _, zx, nx + 1, [(1, 0)], stp, hcell, by simp, zaf hi0 hm0, zom, zom, by have := hxH.1; omega, fun j hj => ?_⟩;rw [hFr j zom zom, x3.2 j zom, hxH.2 j hj]
def zba (a : Aut) : Prop := (a.init ≠ [] ∧ muF a [] (z68 a) ≤ 100000) ∨ ((∀ s, ¬ s ∈ a.init) ∧ ∀ m, ¬ m ∈ z02 a)
theorem zhP (W0 : World) {nx : Nat} {H : Heap} {a : Aut} {vi vf vo vc vn : Value} (ha : AutIn H a vi vf vo vc vn) (hn : AutLen a) (hf : zba a) :
  ACalls Tryz.prog W0 25 [.agg (zy a vi vf vo vc vn).toArray] nx H fun v nx' H' => ∃ (m : Nat) (F : List Thg), v = .map (some m) ∧ H' m = some (.map (F.map fun t => (thV t, .agg #[])) (List.range F.length) F.length) ∧ F.Nodup ∧ (∀ t, t ∈ F ↔ ReachT a t) ∧ nx ≤ m ∧ m < nx' ∧ Ext nx H nx' H' := by
 rcases hf with ⟨h0, h1⟩ | ⟨h0, h1⟩
 ·exact zix W0 ha hn h0 h1
 ·exact zhO W0 ha hn h0 h1
end Go.Proofs.YteplpegfcpmflaaGreat
namespace Go.Am
open Go.Shelf Go.RowKit Go.Lib
open Go.Sort hiding Below
variable {P : Program} {W0 : World}
theorem zbu (l : List Int) : ∀ v ∈ l.map (Value.int .i64), IntV v := fun v hv => by
 obtain ⟨x, _, rfl⟩ := List.mem_map.1 hv;exact ⟨_, _, rfl⟩
theorem zeC {f : FuncId} {el : TypeId}
  (hs : ∀ (blk off cap : Nat) (zs : List Int) (w : World), Holds (Value.int .i64) w blk off zs.toArray → blk < w.heap.size → zs.length < 4611686018427387904 → Calls P f #[.slice (some ⟨blk, off, none⟩) zs.length cap] w fun e w' => e = .returned (.tuple #[]) ∧ ∃ n os, w' = grow (putRow (Value.int .i64) (Sort.ahead w n) blk off (zs.mergeSort fun x y => decide (x ≤ y)).toArray) os)
  (h0 : ∀ (cap : Nat) (w : World), Calls P f #[.slice none 0 cap] w fun e w' => e = .returned (.tuple #[]) ∧ w' = w) : zdl P W0 f el := by
 intro nx H ob v l hown hl C w args' hR ha;obtain ⟨h1, h2⟩ := ha
 obtain ⟨v1, rfl⟩ : ∃ v1, args' = [v1] := by
  match args', h1 with
  | [v1], _ => exact ⟨v1, rfl⟩
 have hv1 := h2 0 (by simp) (by simp);simp only [List.getElem_cons_zero] at hv1;cases ob with
 | none =>
  obtain ⟨rfl, hnil, _⟩ := hown;have hl0 : l = [] := by simpa using hnil
  subst hl0
  obtain ⟨cap', rfl⟩ : ∃ cap', v1 = .slice none 0 cap' := by
   cases hv1
   all_goals exact ⟨_, rfl⟩
  refine (h0 cap' w).mono ?_;rintro e' w' ⟨rfl, rfl⟩;exact ⟨_, _, C, nx, H, rfl, ⟨rfl, rfl, ⟨rfl, by simp [z5h], by simp [z5h]⟩, fun _ _ => rfl⟩, hR, .tuple _ _ rfl (fun i h => absurd h (by simp)), Stp.refl _ _ _⟩
 | some bt =>
  obtain ⟨b, t⟩ := bt;obtain ⟨rfl, hlen, rest, ho⟩ := hown
  obtain ⟨cap', rfl⟩ : ∃ cap', v1 = .slice (some ⟨(C.loc b).1, (C.loc b).2, none⟩) l.length cap' := by
   cases hv1 with
   | slc _ _ _ b' cap' k1 k2 =>
    obtain ⟨e1, _⟩ := k2 _ ho rfl;exact ⟨cap', by rw [e1]; simp [Corr.at]⟩
  have hH : Holds (Value.int .i64) w (C.loc b).1 (C.loc b).2 l.toArray := z97 (z6m hR ho (zbu l));refine (hs (C.loc b).1 (C.loc b).2 cap' l w hH (hR.obj _ _ ho).blk zom).mono ?_;rintro e' w' ⟨rfl, n, os, rfl⟩;have hsize : (z5h l).length = l.length := (z4e l).length_eq;have hput := za1 hR ho (cs' := (z5h l).map (Value.int .i64)) (by simp [hsize]) (zbu _) n os;rw [show (l.mergeSort fun x y => decide (x ≤ y)) = z5h l from rfl, z7j];refine ⟨_, _, C, nx, _, rfl, ⟨rfl, rfl, ⟨by rw [hsize], by simp [hsize], rest, zb⟩, fun k hk => za (hk b t rfl)⟩, hput.1, .tuple _ _ rfl (fun i h => absurd h (by simp)), hput.2⟩
end Go.Am
namespace Go.Proofs.YteplpegfcpmflaaGreat
open Go.Shelf Go.RowKit Go.Lib Go.Am
open Go.Sort hiding Below
shelf_lay Lays.n189 Nm 189 at Tryz as sortI189
theorem z8W (W0 : World) : zdl Tryz.prog W0 62 3 :=
 zeC (fun blk off cap zs w hH hb hl => Any.slices_Sort_int sortI189 blk off cap zs w hH hb hl) (fun cap w => Any.slices_Sort_int_none sortI189 none cap w)
end Go.Proofs.YteplpegfcpmflaaGreat

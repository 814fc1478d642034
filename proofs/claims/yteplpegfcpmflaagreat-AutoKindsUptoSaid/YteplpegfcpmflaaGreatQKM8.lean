import Derived.Sort.Grow
import Derived.Deep.Draws
import Derived.Test.YteplpegfcpmflaaGreatRows
import Derived.Shelf.SlicesG.Cmp
import Derived.Shelf.Lay
import Derived.Ground.SlgcProg
import Derived.Test.YteplpegfcpmflaaGreatQKM7
set_option linter.unusedSimpArgs false
set_option linter.unusedVariables false
set_option maxRecDepth 100000
set_option maxHeartbeats 32000000
namespace Go.Am
open Go.RowKit
theorem z0y (r : R4) : (e4 r).length = 4 := rfl
theorem z4p (r : R4) : (e4 r).all (·.oneCell') = true := rfl
theorem z3H (r : R3) : (e3 r).length = 3 := rfl
theorem zdf (r : R3) : (e3 r).all (·.oneCell') = true := rfl
def z1X (ss : List (ByteArray × Int)) (k : Int) (i : Nat) : List Int := (((List.range i).filter fun j => match ss[j]? with | some x => decide (x.2 = k) | none => false).map fun (j : Nat) => (j : Int))
theorem zah (ss : List (ByteArray × Int)) (k : Int) {i : Nat} (hi : i < ss.length) : z1X ss k (i + 1) = if ss[i].2 = k then z1X ss k i ++ [(i : Int)] else z1X ss k i := by
 unfold z1X;rw [List.range_succ, List.filter_append, List.map_append];simp only [List.filter_cons, List.filter_nil, List.getElem?_eq_getElem hi, decide_eq_true_eq];split <;> simp_all
theorem zca (ss : List (ByteArray × Int)) (k : Int) (i : Nat) : (z1X ss k i).length ≤ i := by
 unfold z1X;rw [List.length_map];refine Nat.le_trans (List.length_filter_le _ _) ?_;simp
theorem zc9 {ss : List (ByteArray × Int)} {k : Int} {i : Nat} (hi : i ≤ ss.length) {x : Int} (h : x ∈ z1X ss k i) : kdF ss x k = true := by
 unfold z1X at h;rw [List.mem_map] at h;obtain ⟨j, hj, rfl⟩ := h;rw [List.mem_filter, List.mem_range] at hj;obtain ⟨h1, h2⟩ := hj;unfold kdF;rw [Int.toNat_natCast];have h3 : j < ss.length := by omega
 simp only [List.getElem?_eq_getElem h3, decide_eq_true_eq] at h2 ⊢;simp [h2, h3]
def z3N (ss : List (ByteArray × Int)) (k x : Int) : Int := match (z1X ss k ss.length)[(x % ((z1X ss k ss.length).length : Int)).toNat]? with | some y => y | none => -1
theorem z5o {ss : List (ByteArray × Int)} {k x : Int} (h : 0 ≤ z3N ss k x) : kdF ss (z3N ss k x) k = true := by
 unfold z3N at *;split at h
 ·rename_i y hy;exact zc9 (Nat.le_refl _) (List.mem_of_getElem? hy)
 ·omega
def z3K (a : Aut) (p : Int) : Aut := ⟨a.N, a.G, a.init ++ [p], a.final, a.opens, a.closes, a.inners⟩
def zbK (a : Aut) (p : Int) : Aut := ⟨a.N, a.G, a.init, a.final ++ [p], a.opens, a.closes, a.inners⟩
def zaW (a : Aut) (p : R4) : Aut := ⟨a.N, a.G, a.init, a.final, a.opens ++ [p], a.closes, a.inners⟩
def zaX (a : Aut) (p : R4) : Aut := ⟨a.N, a.G, a.init, a.final, a.opens, a.closes ++ [p], a.inners⟩
def zcX (a : Aut) (p : R3) : Aut := ⟨a.N, a.G, a.init, a.final, a.opens, a.closes, a.inners ++ [p]⟩
def zbQ (ss : List (ByteArray × Int)) (a : Aut) (x : Int) : Aut :=
 let y := x % 1099511627776
 let p := y / 8 % a.N
 let q := y / 80 % a.N
 let z := y / 800 % 7
 if y % 8 = 0 then z3K a p
 else if y % 8 = 1 then zbK a p
 else if y % 8 = 2 ∨ y % 8 = 3 then (if 0 ≤ z3N ss 1 z then zaW a (p, z3N ss 1 z, q, 1 + y / 8000 % a.G) else a)
 else if y % 8 = 4 ∨ y % 8 = 5 then (if 0 ≤ z3N ss 2 z then zaX a (p, z3N ss 2 z, y / 8000 % (a.G + 1), q) else a)
 else (if 0 ≤ z3N ss 3 z then zcX a (p, z3N ss 3 z, q) else a)
def z4m (size most : Int) : Aut := ⟨1 + size % most, 1 + size.tdiv 7 % 2, [], [], [], [], []⟩
def z5O (ss : List (ByteArray × Int)) (size most : Int) (ns : List Int) (i : Nat) : Aut := (ns.take i).foldl (zbQ ss) (z4m size most)
def z8D (a : Aut) : Aut := if a.init = [] then z3K a 0 else a
def z4l (ss : List (ByteArray × Int)) (size most : Int) (ns : List Int) : Aut := z8D (z5O ss size most ns 24)
theorem z7n (ss : List (ByteArray × Int)) (size most : Int) (ns : List Int) {i : Nat} (hi : i < ns.length) : z5O ss size most ns (i + 1) = zbQ ss (z5O ss size most ns i) ns[i] := by
 unfold z5O;rw [List.take_succ_eq_append_getElem hi, List.foldl_append];rfl
structure GoodM (ss : List (ByteArray × Int)) (most : Int) (a : Aut) (i : Nat) : Prop where
 N0 : 1 ≤ a.N
 N1 : a.N ≤ most
 G0 : 1 ≤ a.G
 G1 : a.G ≤ 2
 init : a.init.all (stF a.N) = true
 final : a.final.all (stF a.N) = true
 opens : a.opens.all (okO ss a) = true
 closes : a.closes.all (okC ss a) = true
 inners : a.inners.all (okI ss a) = true
 len : a.init.length ≤ i ∧ a.final.length ≤ i ∧ a.opens.length ≤ i ∧ a.closes.length ≤ i ∧ a.inners.length ≤ i
theorem zaR (ss : List (ByteArray × Int)) {size most : Int} (h : 1 ≤ most) : GoodM ss most (z4m size most) 0 := by
 have h1 := Int.emod_nonneg size (show most ≠ 0 by omega);have h2 := Int.emod_lt_of_pos size (show 0 < most by omega);have h3 := Int.emod_nonneg (size.tdiv 7) (show (2 : Int) ≠ 0 by omega);have h4 := Int.emod_lt_of_pos (size.tdiv 7) (show (0 : Int) < 2 by omega);exact ⟨by simp [z4m]; omega, by simp [z4m]; omega, by simp [z4m]; omega, by simp [z4m]; omega, rfl, rfl, rfl, rfl, rfl, by simp [z4m]⟩
theorem z4T {α : Type} {p : α → Bool} {l : List α} {x : α} (h : l.all p = true) (hx : p x = true) : (l ++ [x]).all p = true := by
 rw [List.all_append, h];simp [hx]
theorem z6c {N x : Int} (h : 1 ≤ N) : stF N (x % N) = true := by
 have h1 := Int.emod_nonneg x (show N ≠ 0 by omega);have h2 := Int.emod_lt_of_pos x (show 0 < N by omega);simp [stF, h1, h2]
theorem GoodM.up {ss : List (ByteArray × Int)} {most : Int} {a : Aut} {i : Nat} (h : GoodM ss most a i) : GoodM ss most a (i + 1) :=
 ⟨h.N0, h.N1, h.G0, h.G1, h.init, h.final, h.opens, h.closes, h.inners, by have := h.len; omega⟩
theorem GoodM.putI {ss : List (ByteArray × Int)} {most : Int} {a : Aut} {i : Nat} {p : Int} (h : GoodM ss most a i) (hp : stF a.N p = true) : GoodM ss most (z3K a p) (i + 1) :=
 ⟨h.N0, h.N1, h.G0, h.G1, z4T h.init hp, h.final, h.opens, h.closes, h.inners, by have := h.len; simp [Am.z3K]; omega⟩
theorem GoodM.putF {ss : List (ByteArray × Int)} {most : Int} {a : Aut} {i : Nat} {p : Int} (h : GoodM ss most a i) (hp : stF a.N p = true) : GoodM ss most (zbK a p) (i + 1) :=
 ⟨h.N0, h.N1, h.G0, h.G1, h.init, z4T h.final hp, h.opens, h.closes, h.inners, by have := h.len; simp [Am.zbK]; omega⟩
theorem GoodM.putO {ss : List (ByteArray × Int)} {most : Int} {a : Aut} {i : Nat} {p : R4} (h : GoodM ss most a i) (hp : okO ss a p = true) : GoodM ss most (zaW a p) (i + 1) :=
 ⟨h.N0, h.N1, h.G0, h.G1, h.init, h.final, z4T h.opens hp, h.closes, h.inners, by have := h.len; simp [Am.zaW]; omega⟩
theorem GoodM.putC {ss : List (ByteArray × Int)} {most : Int} {a : Aut} {i : Nat} {p : R4} (h : GoodM ss most a i) (hp : okC ss a p = true) : GoodM ss most (zaX a p) (i + 1) :=
 ⟨h.N0, h.N1, h.G0, h.G1, h.init, h.final, h.opens, z4T h.closes hp, h.inners, by have := h.len; simp [Am.zaX]; omega⟩
theorem GoodM.putN {ss : List (ByteArray × Int)} {most : Int} {a : Aut} {i : Nat} {p : R3} (h : GoodM ss most a i) (hp : okI ss a p = true) : GoodM ss most (zcX a p) (i + 1) :=
 ⟨h.N0, h.N1, h.G0, h.G1, h.init, h.final, h.opens, h.closes, z4T h.inners hp, by have := h.len; simp [Am.zcX]; omega⟩
theorem GoodM.step {ss : List (ByteArray × Int)} {most : Int} {a : Aut} {i : Nat} (h : GoodM ss most a i) (x : Int) : GoodM ss most (zbQ ss a x) (i + 1) := by
 have hy := Int.emod_nonneg x (show (1099511627776 : Int) ≠ 0 by omega);unfold zbQ;have g1 := Int.emod_nonneg (x % 1099511627776 / 8000) (show a.G ≠ 0 by have := h.G0; omega);have g2 := Int.emod_lt_of_pos (x % 1099511627776 / 8000) (show 0 < a.G by have := h.G0; omega);have g3 := Int.emod_nonneg (x % 1099511627776 / 8000) (show a.G + 1 ≠ 0 by have := h.G0; omega);have g4 := Int.emod_lt_of_pos (x % 1099511627776 / 8000) (show 0 < a.G + 1 by have := h.G0; omega);dsimp only;split
 ·exact h.putI (z6c h.N0)
 split
 ·exact h.putF (z6c h.N0)
 split
 ·split
  ·rename_i hk;exact h.putO (by simp only [okO, z6c h.N0, z5o hk, btF, Bool.true_and, Bool.and_eq_true, decide_eq_true_eq]; omega)
  ·exact h.up
 split
 ·split
  ·rename_i hk;exact h.putC (by simp only [okC, z6c h.N0, z5o hk, btF, Bool.true_and, Bool.and_eq_true, decide_eq_true_eq]; omega)
  ·exact h.up
 ·split
  ·rename_i hk;exact h.putN (by simp only [okI, z6c h.N0, z5o hk, Bool.true_and])
  ·exact h.up
theorem z5v (ss : List (ByteArray × Int)) {size most : Int} (h : 1 ≤ most) (ns : List Int) : ∀ i, i ≤ ns.length → GoodM ss most (z5O ss size most ns i) i := by
 intro i
 induction i with
 | zero => intro _; exact zaR ss h
 | succ i ih =>
  intro hi;rw [z7n ss size most ns (show i < ns.length by omega)];exact (ih zom).step _
theorem GoodM.last {ss : List (ByteArray × Int)} {most : Int} {a : Aut} {i : Nat} (h : GoodM ss most a i) : GoodM ss most (z8D a) (i + 1) := by
 unfold z8D;split
 ·refine h.putI ?_;have := h.N0;simp [stF];omega
 ·exact h.up
theorem z7m (ss : List (ByteArray × Int)) (size most : Int) (ns : List Int) {i : Nat} (h : ns.length ≤ i) : z5O ss size most ns i = z5O ss size most ns ns.length := by
 unfold z5O;rw [List.take_of_length_le h, List.take_length]
theorem z7x (ss : List (ByteArray × Int)) {size most : Int} (h : 1 ≤ most) (ns : List Int) : GoodM ss most (z4l ss size most ns) 25 := by
 unfold z4l;by_cases h24 : 24 ≤ ns.length
 ·exact (z5v ss h ns 24 h24).last
 ·rw [z7m ss size most ns (show ns.length ≤ 24 by omega)];have := (z5v ss (size := size) h ns ns.length (Nat.le_refl _)).last;exact ⟨this.N0, this.N1, this.G0, this.G1, this.init, this.final, this.opens, this.closes, this.inners, by have := this.len; omega⟩
theorem GoodM.lens {ss : List (ByteArray × Int)} {most : Int} {a : Aut} {i : Nat} (h : GoodM ss most a i) (hi : i ≤ 1000) : AutLen a := by
 have h1 := h.len;exact ⟨zom, zom, zom, zom, zom⟩
end Go.Am
namespace Go.Proofs.YteplpegfcpmflaaGreat
open Go.RowKit Go.Am
attribute [local irreducible] aop OpsL Trip zI z2w OpsK OpsR
abbrev zcQ (H : Heap) (ob : Option (Nat × Nat)) (v : Value) (l : List R4) : Prop := OwnOf Go.Am.e4 4 106 H ob v l
theorem zU {H : Heap} {nx k : Nat} {o o' : AObj} (hok : ∀ id o, H id = some o → id < nx) (hk : H k = some o') : ∀ id p, (H.put k o) id = some p → id < nx := fun id p h => by
 by_cases e : id = k
 ·subst e; exact hok _ _ hk
 ·rw [za e] at h; exact hok _ _ h
theorem z6A : Am.z0U Tryz.prog 59 := ⟨Tryz.f59, Tryz.func59, by kernel_rfl, by kernel_rfl⟩
theorem zfE (W0 : World) {nx : Nat} {H : Heap} {a : Aut} {vi vf vo vc vn : Value} (ha : AutIn H a vi vf vo vc vn) (hn : AutLen a) :
  ACalls Tryz.prog W0 59 [.agg (zy a vi vf vo vc vn).toArray] nx H fun v nx' H' => ∃ ob, zcQ H' ob v (z02 a) ∧ Ext nx H nx' H' ∧ ∀ b t, ob = some (b, t) → nx ≤ b ∧ b < nx' := by
 obtain ⟨ai, ci, rfl⟩ := ha.init.slice;obtain ⟨af, cf, rfl⟩ := ha.final.slice;obtain ⟨ao, co, rfl⟩ := ha.opens.slice;obtain ⟨ac, cc, rfl⟩ := ha.closes.slice;obtain ⟨an, cn, rfl⟩ := ha.inners.slice;refine zl (fn := Tryz.f59) (c := _) Tryz.func59 rfl (fun tm n hn0 htm => ?_);have q0 : tm 0 = .agg (zy a (.slice ai a.init.length ci) (.slice af a.final.length cf) (.slice ao a.opens.length co) (.slice ac a.closes.length cc) (.slice an a.inners.length cn)).toArray := htm 0;clear htm;replace hn0 : n = 63 := hn0;refine Trip.ok fun hok => ?_;replace hok : ∀ id o, H id = some o → id < nx := hok;refine z5L ?_;refine OpsL.new zsd (z0f evr) ?_;have hx0 : Ext nx H (nx + 1) (H.put nx (.cells (Value.agg (zy a (.slice ai a.init.length ci) (.slice af a.final.length cf) (.slice ao a.opens.length co) (.slice ac a.closes.length cc) (.slice an a.inners.length cn)).toArray).cells.toList 0 none false (some 30))) := zh;have gx : (H.put nx (.cells (Value.agg (zy a (.slice ai a.init.length ci) (.slice af a.final.length cf) (.slice ao a.opens.length co) (.slice ac a.closes.length cc) (.slice an a.inners.length cn)).toArray).cells.toList 0 none false (some 30))) nx = some (.cells (zy a (.slice ai a.init.length ci) (.slice af a.final.length cf) (.slice ao a.opens.length co) (.slice ac a.closes.length cc) (.slice an a.inners.length cn)) 0 none false (some 30)) := zb;have hokG := zF (o := .cells (Value.agg (zy a (.slice ai a.init.length ci) (.slice af a.final.length cf) (.slice ao a.opens.length co) (.slice ac a.closes.length cc) (.slice an a.inners.length cn)).toArray).cells.toList 0 none false (some 30)) hok;generalize H.put nx (.cells (Value.agg (zy a (.slice ai a.init.length ci) (.slice af a.final.length cf) (.slice ao a.opens.length co) (.slice ac a.closes.length cc) (.slice an a.inners.length cn)).toArray).cells.toList 0 none false (some 30)) = G at *;replace ha := ha.ext hx0 hok;have l1 := hn.opens;have l2 := hn.closes;have l3 := hn.inners
 repeat (first | (refine zd (by first | exact z0E | exact ofa) ?_) | refine Trip.seq ?_ | refine zm ?_ | (refine OpsL.nil ?_; (change Trip _ _ _ _ _)))
 have cb0 : zj G ⟨nx, 0 + 4, none⟩ (.slice ao a.opens.length co) := by rw [Nat.zero_add]; exact ze gx rfl
 repeat (first | (refine zd (by first | exact omv | exact z2i | exact old) ?_) | refine Trip.block ?_ | (refine OpsL.nil ?_; (change Trip _ _ _ _ _)))
 refine Trip.mono (Q := fun e st => e = .exit 0 ∧ ∃ (tm' : Nat → Value) (nx' : Nat) (H' : Heap) (ob : Option (Nat × Nat)) (v : Value), st = ⟨tm', n, H', nx'⟩ ∧ Ext (nx + 1) G nx' H' ∧ (∀ b t, ob = some (b, t) → nx + 1 ≤ b ∧ b < nx') ∧ (∀ id o, H' id = some o → id < nx') ∧ zcQ H' ob v (a.opens.map z0Y) ∧ tm' 1 = .pointer (some ⟨nx, 0, none⟩) ∧ tm' 3 = v) ?_ ?_
 ·refine zD (fun (i : Nat) st => ∃ (tm' : Nat → Value) (nx' : Nat) (H' : Heap) (ob : Option (Nat × Nat)) (v : Value), st = ⟨tm', n, H', nx'⟩ ∧ Ext (nx + 1) G nx' H' ∧ (∀ b t, ob = some (b, t) → nx + 1 ≤ b ∧ b < nx') ∧ (∀ id o, H' id = some o → id < nx') ∧ zcQ H' ob v ((a.opens.take i).map z0Y) ∧ tm' 1 = .pointer (some ⟨nx, 0, none⟩) ∧ tm' 3 = v ∧ tm' 11 = .slice ao a.opens.length co ∧ tm' 12 = .int .i64 a.opens.length ∧ tm' 13 = .int .i64 i ∧ i ≤ a.opens.length) (fun i => a.opens.length - i) 0 ?_ ?_
  ·exact ⟨_, _, _, none, .slice none 0 0, rfl, Ext.refl, fun _ _ h => (by cases h), hokG, ⟨rfl, by simp, by simp⟩, stp, stp, stp, stp, stp, Nat.zero_le _⟩
  ·rintro i st ⟨tm, nx', H', ob, v, rfl, hx, hob, hok', hown, d1, d3, dsl, dln, dix, hi⟩;by_cases hlt : i < a.opens.length
   ·obtain ⟨p, hp0, g⟩ := zS (ha.opens.ext hx hokG) hlt;subst hp0;have hst : (a.opens.take (i + 1)).map z0Y = ((a.opens.take i).map z0Y) ++ [z0Y a.opens[i]] := by rw [List.take_succ_eq_append_getElem hlt, List.map_append]; rfl
    have hzl : ((a.opens.take i).map z0Y).length ≤ 3000 := by simp only [List.length_append, List.length_map, List.length_take]; omega
    generalize (a.opens.take i).map z0Y = zs at *;generalize a.opens[i] = r at *;refine zcT ?_;refine zd (zg (k := 4) (vs := Go.Am.e4 r) evr zxr rfl zxr g) ?_;refine OpsL.new zsd (zB (l := rep 4 [.int .i64 0]) zxr) ?_;refine OpsL.upd (zw (k := 4) (u := .agg (Go.Am.e4 r).toArray) evd evd zxr rfl (o := .cells (Go.Am.e4 r) 0 none false (some 43)) (zC (vs := Go.Am.e4 r) zb rfl rfl)) ?_;obtain ⟨G4, hG4⟩ : ∃ G4, G4 = (H'.put nx' (.cells (rep 4 [.int .i64 0]) 0 none false (some 43))).put nx' (.cells (Go.Am.e4 r) 0 none false (some 43)) := ⟨_, rfl⟩;have hx4 : Ext nx' H' (nx' + 1) G4 := ⟨Nat.le_succ _, fun j hj => by rw [hG4, za zom, za zom]⟩;have hok4 : ∀ id o, G4 id = some o → id < nx' + 1 := by rw [hG4]; exact zU (zF hok') zb
    have hb4 : G4 nx' = some (.cells (Go.Am.e4 r) 0 none false (some 43)) := by rw [hG4, zb]
    first | rw [← hG4] | skip
    clear hG4;have c0 : zj G4 ⟨nx', 0, none⟩ (.int .i64 r.1) := ze hb4 rfl;have c1 : zj G4 ⟨nx', 0 + 1, none⟩ (.int .i64 r.2.1) := by rw [Nat.zero_add]; exact ze hb4 rfl
    have c2 : zj G4 ⟨nx', 0 + 2, none⟩ (.int .i64 r.2.2.1) := by rw [Nat.zero_add]; exact ze hb4 rfl
    have c3 : zj G4 ⟨nx', 0 + 3, none⟩ (.int .i64 r.2.2.2) := by rw [Nat.zero_add]; exact ze hb4 rfl
    refine zet ?_;refine zd (zE (v := .agg (Go.Am.e4 (z0Y r)).toArray) (l := [(0, .int .i64 r.1), (1, .int .i64 0), (2, .int .i64 r.2.2.1), (3, .int .i64 r.2.2.2)]) zep krf) ?_;refine OpsL.new zsd (zq (l := [(0, .agg (Go.Am.e4 (z0Y r)).toArray)]) (r := (.slice (some ⟨nx' + 1, 0, none⟩) 1 1, .new (.cells (Go.Am.e4 (z0Y r)) 4 none false (some 106)))) zeq krf) ?_;have hx5 : Ext (nx' + 1) G4 (nx' + 1 + 1) (G4.put (nx' + 1) (.cells (Go.Am.e4 (z0Y r)) 4 none false (some 106))) := zh;have hok5 := zF (o := .cells (Go.Am.e4 (z0Y r)) 4 none false (some 106)) hok4
    have hone : RowsAt Go.Am.e4 4 (G4.put (nx' + 1) (.cells (Go.Am.e4 (z0Y r)) 4 none false (some 106))) (.slice (some ⟨nx' + 1, 0, none⟩) 1 1) [z0Y r] := by
     refine .inr ⟨⟨nx' + 1, 0, none⟩, 1, rfl, fun j hj => ?_⟩;have : j = 0 := by simpa using hj
     subst this;exact z08 (by show 0 + 4 ≤ 4; decide)
    generalize G4.put (nx' + 1) (.cells (Go.Am.e4 (z0Y r)) 4 none false (some 106)) = G5 at *;refine zJ (bytes := 32) (z := rep 4 [.int .i64 0]) z0y z4p zom zsd (OwnOf.ext (hx4.trans hx5) (fun b t h => (hob b t h).2) hown) hone evd evd (fun b t h => by have := (hob b t h).2; omega) zxr zxr zxr zxr zxr rfl (by simp; omega) zom ?_;intro v8 nx8 H8 ob8 hA8;refine zg8 ?_;refine ⟨i + 1, ⟨_, nx8, H8, ob8, v8, rfl, ⟨by have := hx.1; have := hA8.le; omega, fun j hj => ?_⟩, fun b t h => ?_, hA8.ok (fun b t h => by have := (hob b t h).2; omega) hok5, by rw [hst]; exact hA8.own, stp, stp, stp, stp, stp, zom⟩, zom⟩
    ·have := hx.1;rw [hA8.same j zom (fun b t h => by have := (hob b t h).1; omega), hx5.2 j zom, hx4.2 j zom, hx.2 j hj]
    ·obtain ⟨q1, q2⟩ := hA8.blk b t h;refine ⟨?_, q1⟩;rcases q2 with rfl | ⟨t', h'⟩
     ·have := hx.1; omega
     ·exact (hob _ _ h').1
   ·have hin : i = a.opens.length := by omega
    subst hin;rw [List.take_length] at hown;refine z9O ?_;exact ⟨rfl, _, _, _, ob, v, rfl, hx, hob, hok', hown, stp, stp⟩
 rintro e st ⟨rfl, tm', m1, J1, p1, u1, rfl, y1, z1, f1, w1, d1, d3⟩;refine z5e ?_;have hb1 : J1 nx = some (.cells (zy a (.slice ai a.init.length ci) (.slice af a.final.length cf) (.slice ao a.opens.length co) (.slice ac a.closes.length cc) (.slice an a.inners.length cn)) 0 none false (some 30)) := (y1.2 nx zom).trans gx;have cb1 : zj J1 ⟨nx, 0 + 5, none⟩ (.slice ac a.closes.length cc) := by rw [Nat.zero_add]; exact ze hb1 rfl
 refine zfN ?_;refine Trip.mono (Q := fun e st => e = .exit 2 ∧ ∃ (tm' : Nat → Value) (nx' : Nat) (H' : Heap) (ob : Option (Nat × Nat)) (v : Value), st = ⟨tm', n, H', nx'⟩ ∧ Ext (nx + 1) G nx' H' ∧ (∀ b t, ob = some (b, t) → nx + 1 ≤ b ∧ b < nx') ∧ (∀ id o, H' id = some o → id < nx') ∧ zcQ H' ob v ((a.opens.map z0Y) ++ a.closes.map z1D) ∧ tm' 1 = .pointer (some ⟨nx, 0, none⟩) ∧ tm' 3 = v) ?_ ?_
 ·refine zD (fun (i : Nat) st => ∃ (tm' : Nat → Value) (nx' : Nat) (H' : Heap) (ob : Option (Nat × Nat)) (v : Value), st = ⟨tm', n, H', nx'⟩ ∧ Ext (nx + 1) G nx' H' ∧ (∀ b t, ob = some (b, t) → nx + 1 ≤ b ∧ b < nx') ∧ (∀ id o, H' id = some o → id < nx') ∧ zcQ H' ob v ((a.opens.map z0Y) ++ (a.closes.take i).map z1D) ∧ tm' 1 = .pointer (some ⟨nx, 0, none⟩) ∧ tm' 3 = v ∧ tm' 29 = .slice ac a.closes.length cc ∧ tm' 30 = .int .i64 a.closes.length ∧ tm' 31 = .int .i64 i ∧ i ≤ a.closes.length) (fun i => a.closes.length - i) 0 ?_ ?_
  ·exact ⟨_, m1, J1, p1, u1, rfl, y1, z1, f1, by simpa using w1, stp, stp, stp, stp, stp, Nat.zero_le _⟩
  ·clear d1 d3;rintro i st ⟨tm, nx', H', ob, v, rfl, hx, hob, hok', hown, d1, d3, dsl, dln, dix, hi⟩;by_cases hlt : i < a.closes.length
   ·obtain ⟨p, hp0, g⟩ := zS (ha.closes.ext hx hokG) hlt;subst hp0;have hst : (a.opens.map z0Y) ++ (a.closes.take (i + 1)).map z1D = ((a.opens.map z0Y) ++ (a.closes.take i).map z1D) ++ [z1D a.closes[i]] := by rw [List.take_succ_eq_append_getElem hlt, List.map_append, ← List.append_assoc]; rfl
    have hzl : ((a.opens.map z0Y) ++ (a.closes.take i).map z1D).length ≤ 3000 := by simp only [List.length_append, List.length_map, List.length_take]; omega
    generalize (a.opens.map z0Y) ++ (a.closes.take i).map z1D = zs at *;generalize a.closes[i] = r at *;refine zcT ?_;refine zd (zg (k := 4) (vs := Go.Am.e4 r) evr zxr rfl zxr g) ?_;refine OpsL.new zsd (zB (l := rep 4 [.int .i64 0]) zxr) ?_;refine OpsL.upd (zw (k := 4) (u := .agg (Go.Am.e4 r).toArray) evd evd zxr rfl (o := .cells (Go.Am.e4 r) 0 none false (some 45)) (zC (vs := Go.Am.e4 r) zb rfl rfl)) ?_;obtain ⟨G4, hG4⟩ : ∃ G4, G4 = (H'.put nx' (.cells (rep 4 [.int .i64 0]) 0 none false (some 45))).put nx' (.cells (Go.Am.e4 r) 0 none false (some 45)) := ⟨_, rfl⟩;have hx4 : Ext nx' H' (nx' + 1) G4 := ⟨Nat.le_succ _, fun j hj => by rw [hG4, za zom, za zom]⟩;have hok4 : ∀ id o, G4 id = some o → id < nx' + 1 := by rw [hG4]; exact zU (zF hok') zb
    have hb4 : G4 nx' = some (.cells (Go.Am.e4 r) 0 none false (some 45)) := by rw [hG4, zb]
    first | rw [← hG4] | skip
    clear hG4;have c0 : zj G4 ⟨nx', 0, none⟩ (.int .i64 r.1) := ze hb4 rfl;have c1 : zj G4 ⟨nx', 0 + 1, none⟩ (.int .i64 r.2.1) := by rw [Nat.zero_add]; exact ze hb4 rfl
    have c2 : zj G4 ⟨nx', 0 + 2, none⟩ (.int .i64 r.2.2.1) := by rw [Nat.zero_add]; exact ze hb4 rfl
    have c3 : zj G4 ⟨nx', 0 + 3, none⟩ (.int .i64 r.2.2.2) := by rw [Nat.zero_add]; exact ze hb4 rfl
    refine zet ?_;refine zd (zE (v := .agg (Go.Am.e4 (z1D r)).toArray) (l := [(0, .int .i64 r.1), (1, .int .i64 r.2.2.1), (2, .int .i64 r.2.2.2), (3, .int .i64 0)]) zep krf) ?_;refine OpsL.new zsd (zq (l := [(0, .agg (Go.Am.e4 (z1D r)).toArray)]) (r := (.slice (some ⟨nx' + 1, 0, none⟩) 1 1, .new (.cells (Go.Am.e4 (z1D r)) 4 none false (some 106)))) zeq krf) ?_;have hx5 : Ext (nx' + 1) G4 (nx' + 1 + 1) (G4.put (nx' + 1) (.cells (Go.Am.e4 (z1D r)) 4 none false (some 106))) := zh;have hok5 := zF (o := .cells (Go.Am.e4 (z1D r)) 4 none false (some 106)) hok4
    have hone : RowsAt Go.Am.e4 4 (G4.put (nx' + 1) (.cells (Go.Am.e4 (z1D r)) 4 none false (some 106))) (.slice (some ⟨nx' + 1, 0, none⟩) 1 1) [z1D r] := by
     refine .inr ⟨⟨nx' + 1, 0, none⟩, 1, rfl, fun j hj => ?_⟩;have : j = 0 := by simpa using hj
     subst this;exact z08 (by show 0 + 4 ≤ 4; decide)
    generalize G4.put (nx' + 1) (.cells (Go.Am.e4 (z1D r)) 4 none false (some 106)) = G5 at *;refine zJ (bytes := 32) (z := rep 4 [.int .i64 0]) z0y z4p zom zsd (OwnOf.ext (hx4.trans hx5) (fun b t h => (hob b t h).2) hown) hone evd evd (fun b t h => by have := (hob b t h).2; omega) zxr zxr zxr zxr zxr rfl (by simp; omega) zom ?_;intro v8 nx8 H8 ob8 hA8;refine zg8 ?_;refine ⟨i + 1, ⟨_, nx8, H8, ob8, v8, rfl, ⟨by have := hx.1; have := hA8.le; omega, fun j hj => ?_⟩, fun b t h => ?_, hA8.ok (fun b t h => by have := (hob b t h).2; omega) hok5, by rw [hst]; exact hA8.own, stp, stp, stp, stp, stp, zom⟩, zom⟩
    ·have := hx.1;rw [hA8.same j zom (fun b t h => by have := (hob b t h).1; omega), hx5.2 j zom, hx4.2 j zom, hx.2 j hj]
    ·obtain ⟨q1, q2⟩ := hA8.blk b t h;refine ⟨?_, q1⟩;rcases q2 with rfl | ⟨t', h'⟩
     ·have := hx.1; omega
     ·exact (hob _ _ h').1
   ·have hin : i = a.closes.length := by omega
    subst hin;rw [List.take_length] at hown;refine z9O ?_;exact ⟨rfl, _, _, _, ob, v, rfl, hx, hob, hok', hown, stp, stp⟩
 clear d1 d3;rintro e st ⟨rfl, tm', m2, J2, p2, u2, rfl, y2, z2, f2, w2, d1, d3⟩;refine z5e ?_;have hb2 : J2 nx = some (.cells (zy a (.slice ai a.init.length ci) (.slice af a.final.length cf) (.slice ao a.opens.length co) (.slice ac a.closes.length cc) (.slice an a.inners.length cn)) 0 none false (some 30)) := (y2.2 nx zom).trans gx;have cb2 : zj J2 ⟨nx, 0 + 6, none⟩ (.slice an a.inners.length cn) := by rw [Nat.zero_add]; exact ze hb2 rfl
 refine zfN ?_;refine Trip.mono (Q := fun e st => e = .exit 4 ∧ ∃ (tm' : Nat → Value) (nx' : Nat) (H' : Heap) (ob : Option (Nat × Nat)) (v : Value), st = ⟨tm', n, H', nx'⟩ ∧ Ext (nx + 1) G nx' H' ∧ (∀ b t, ob = some (b, t) → nx + 1 ≤ b ∧ b < nx') ∧ (∀ id o, H' id = some o → id < nx') ∧ zcQ H' ob v ((a.opens.map z0Y ++ a.closes.map z1D) ++ a.inners.map z2Q) ∧ tm' 1 = .pointer (some ⟨nx, 0, none⟩) ∧ tm' 3 = v) ?_ ?_
 ·refine zD (fun (i : Nat) st => ∃ (tm' : Nat → Value) (nx' : Nat) (H' : Heap) (ob : Option (Nat × Nat)) (v : Value), st = ⟨tm', n, H', nx'⟩ ∧ Ext (nx + 1) G nx' H' ∧ (∀ b t, ob = some (b, t) → nx + 1 ≤ b ∧ b < nx') ∧ (∀ id o, H' id = some o → id < nx') ∧ zcQ H' ob v ((a.opens.map z0Y ++ a.closes.map z1D) ++ (a.inners.take i).map z2Q) ∧ tm' 1 = .pointer (some ⟨nx, 0, none⟩) ∧ tm' 3 = v ∧ tm' 47 = .slice an a.inners.length cn ∧ tm' 48 = .int .i64 a.inners.length ∧ tm' 49 = .int .i64 i ∧ i ≤ a.inners.length) (fun i => a.inners.length - i) 0 ?_ ?_
  ·exact ⟨_, m2, J2, p2, u2, rfl, y2, z2, f2, by simpa using w2, stp, stp, stp, stp, stp, Nat.zero_le _⟩
  ·clear d1 d3;rintro i st ⟨tm, nx', H', ob, v, rfl, hx, hob, hok', hown, d1, d3, dsl, dln, dix, hi⟩;by_cases hlt : i < a.inners.length
   ·obtain ⟨p, hp0, g⟩ := zS (ha.inners.ext hx hokG) hlt;subst hp0;have hst : (a.opens.map z0Y ++ a.closes.map z1D) ++ (a.inners.take (i + 1)).map z2Q = ((a.opens.map z0Y ++ a.closes.map z1D) ++ (a.inners.take i).map z2Q) ++ [z2Q a.inners[i]] := by rw [List.take_succ_eq_append_getElem hlt, List.map_append, ← List.append_assoc]; rfl
    have hzl : ((a.opens.map z0Y ++ a.closes.map z1D) ++ (a.inners.take i).map z2Q).length ≤ 3000 := by simp only [List.length_append, List.length_map, List.length_take]; omega
    generalize (a.opens.map z0Y ++ a.closes.map z1D) ++ (a.inners.take i).map z2Q = zs at *;generalize a.inners[i] = r at *;refine zcT ?_;refine zd (zg (k := 3) (vs := Go.Am.e3 r) evr zxr rfl zxr g) ?_;refine OpsL.new zsd (zB (l := rep 3 [.int .i64 0]) zxr) ?_;refine OpsL.upd (zw (k := 3) (u := .agg (Go.Am.e3 r).toArray) evd evd zxr rfl (o := .cells (Go.Am.e3 r) 0 none false (some 51)) (zC (vs := Go.Am.e3 r) zb rfl rfl)) ?_;obtain ⟨G4, hG4⟩ : ∃ G4, G4 = (H'.put nx' (.cells (rep 3 [.int .i64 0]) 0 none false (some 51))).put nx' (.cells (Go.Am.e3 r) 0 none false (some 51)) := ⟨_, rfl⟩;have hx4 : Ext nx' H' (nx' + 1) G4 := ⟨Nat.le_succ _, fun j hj => by rw [hG4, za zom, za zom]⟩;have hok4 : ∀ id o, G4 id = some o → id < nx' + 1 := by rw [hG4]; exact zU (zF hok') zb
    have hb4 : G4 nx' = some (.cells (Go.Am.e3 r) 0 none false (some 51)) := by rw [hG4, zb]
    first | rw [← hG4] | skip
    clear hG4;have c0 : zj G4 ⟨nx', 0, none⟩ (.int .i64 r.1) := ze hb4 rfl;have c1 : zj G4 ⟨nx', 0 + 1, none⟩ (.int .i64 r.2.1) := by rw [Nat.zero_add]; exact ze hb4 rfl
    have c2 : zj G4 ⟨nx', 0 + 2, none⟩ (.int .i64 r.2.2) := by rw [Nat.zero_add]; exact ze hb4 rfl
    refine zet ?_;refine zd (zE (v := .agg (Go.Am.e4 (z2Q r)).toArray) (l := [(0, .int .i64 r.1), (1, .int .i64 0), (2, .int .i64 r.2.2), (3, .int .i64 0)]) zep krf) ?_;refine OpsL.new zsd (zq (l := [(0, .agg (Go.Am.e4 (z2Q r)).toArray)]) (r := (.slice (some ⟨nx' + 1, 0, none⟩) 1 1, .new (.cells (Go.Am.e4 (z2Q r)) 4 none false (some 106)))) zeq krf) ?_;have hx5 : Ext (nx' + 1) G4 (nx' + 1 + 1) (G4.put (nx' + 1) (.cells (Go.Am.e4 (z2Q r)) 4 none false (some 106))) := zh;have hok5 := zF (o := .cells (Go.Am.e4 (z2Q r)) 4 none false (some 106)) hok4
    have hone : RowsAt Go.Am.e4 4 (G4.put (nx' + 1) (.cells (Go.Am.e4 (z2Q r)) 4 none false (some 106))) (.slice (some ⟨nx' + 1, 0, none⟩) 1 1) [z2Q r] := by
     refine .inr ⟨⟨nx' + 1, 0, none⟩, 1, rfl, fun j hj => ?_⟩;have : j = 0 := by simpa using hj
     subst this;exact z08 (by show 0 + 4 ≤ 4; decide)
    generalize G4.put (nx' + 1) (.cells (Go.Am.e4 (z2Q r)) 4 none false (some 106)) = G5 at *;refine zJ (bytes := 32) (z := rep 4 [.int .i64 0]) z0y z4p zom zsd (OwnOf.ext (hx4.trans hx5) (fun b t h => (hob b t h).2) hown) hone evd evd (fun b t h => by have := (hob b t h).2; omega) zxr zxr zxr zxr zxr rfl (by simp; omega) zom ?_;intro v8 nx8 H8 ob8 hA8;refine zg8 ?_;refine ⟨i + 1, ⟨_, nx8, H8, ob8, v8, rfl, ⟨by have := hx.1; have := hA8.le; omega, fun j hj => ?_⟩, fun b t h => ?_, hA8.ok (fun b t h => by have := (hob b t h).2; omega) hok5, by rw [hst]; exact hA8.own, stp, stp, stp, stp, stp, zom⟩, zom⟩
    ·have := hx.1;rw [hA8.same j zom (fun b t h => by have := (hob b t h).1; omega), hx5.2 j zom, hx4.2 j zom, hx.2 j hj]
    ·obtain ⟨q1, q2⟩ := hA8.blk b t h;refine ⟨?_, q1⟩;rcases q2 with rfl | ⟨t', h'⟩
     ·have := hx.1; omega
     ·exact (hob _ _ h').1
   ·have hin : i = a.inners.length := by omega
    subst hin;rw [List.take_length] at hown;refine z9O ?_;exact ⟨rfl, _, _, _, ob, v, rfl, hx, hob, hok', hown, stp, stp⟩
 clear d1 d3;rintro e st ⟨rfl, tm', m3, J3, p3, u3, rfl, y3, z3, f3, w3, d1, d3⟩;refine z5e ?_;refine zcU ?_;refine ⟨.inr rfl, _, zx, p3, by simpa [zk, *, z02] using w3, hx0.trans y3, fun b t h => by have := z3 b t h; omega⟩
end Go.Proofs.YteplpegfcpmflaaGreat
namespace Go.Am
open Go.RowKit
section
variable {α : Type} [DecidableEq α]
def z1h (l : List α) : List α := l.foldl (fun acc x => if acc.getLast? = some x then acc else acc ++ [x]) []
theorem z9a (p : List α) (x : α) : z1h (p ++ [x]) = if (z1h p).getLast? = some x then z1h p else z1h p ++ [x] := by
 unfold z1h;rw [List.foldl_append];rfl
theorem ze1 (l : List α) : (z1h l).getLast? = l.getLast? := by
 rcases List.eq_nil_or_concat l with rfl | ⟨p, x, rfl⟩
 ·rfl
 ·rw [List.concat_eq_append, z9a];split
  ·rename_i h; rw [h]; simp
  ·simp
theorem zct (p : List α) (x : α) : z1h (p ++ [x]) = if p.getLast? = some x then z1h p else z1h p ++ [x] := by rw [z9a, ze1]
theorem z1x (l : List α) {m : Nat} (h0 : 0 < m) (h : m < l.length) : z1h (l.take (m + 1)) = if l[m - 1] = l[m] then z1h (l.take m) else z1h (l.take m) ++ [l[m]] := by
 rw [List.take_add_one, List.getElem?_eq_getElem h, Option.toList_some, zct]
 have : (l.take m).getLast? = some l[m - 1] := by
  rw [List.getLast?_eq_getElem?, List.length_take, Nat.min_eq_left zom, List.getElem?_take, if_pos zom, List.getElem?_eq_getElem]
 rw [this];simp
theorem z49 (l : List α) (h : l.length ≤ 1) : z1h l = l := by
 match l, h with
 | [], _ => rfl
 | [x], _ => rfl
theorem z2E (l : List α) : ∀ m, m ≤ l.length → (∀ i (h : i < l.length), 0 < i → i < m → l[i - 1] ≠ l[i]) → z1h (l.take m) = l.take m := by
 intro m
 induction m with
 | zero => intro _ _; rfl
 | succ m ih =>
  intro hm h;by_cases h0 : 0 < m
  ·rw [z1x l h0 zom, if_neg (h m zom h0 (Nat.lt_succ_self _)), ih zom (fun i hi a b => h i hi a zom), List.take_add_one, List.getElem?_eq_getElem (by omega : m < l.length)];rfl
  ·have : m = 0 := by omega
   subst this;exact z49 _ (by simp; omega)
theorem z3q (l : List α) (x : α) : x ∈ z1h l ↔ x ∈ l := by
 have : ∀ l : List α, ∀ acc : List α, x ∈ l.foldl (fun acc x => if acc.getLast? = some x then acc else acc ++ [x]) acc ↔ x ∈ acc ∨ x ∈ l := by
  intro l
  induction l with
  | nil => intro acc; simp
  | cons y l ih =>
   intro acc;rw [List.foldl_cons, ih];split
   ·rename_i h;have := List.mem_of_getLast? h;constructor
    ·rintro (h1 | h1)
     ·exact .inl h1
     ·exact .inr (List.mem_cons_of_mem _ h1)
    ·rintro (h1 | h1)
     ·exact .inl h1
     ·rcases List.mem_cons.1 h1 with rfl | h1
      ·exact .inl this
      ·exact .inr h1
   ·simp only [List.mem_append, List.mem_cons, List.not_mem_nil, or_false];constructor
    ·rintro ((h1 | h1) | h1)
     ·exact .inl h1
     ·exact .inr (.inl h1)
     ·exact .inr (.inr h1)
    ·rintro (h1 | h1 | h1)
     ·exact .inl (.inl h1)
     ·exact .inl (.inr h1)
     ·exact .inr h1
 have h := this l [];simpa [z1h] using h
theorem z4S (l : List α) : (z1h l).length ≤ l.length := by
 have : ∀ l : List α, ∀ acc : List α, (l.foldl (fun acc x => if acc.getLast? = some x then acc else acc ++ [x]) acc).length ≤ acc.length + l.length := by
  intro l
  induction l with
  | nil => intro acc; simp
  | cons y l ih =>
   intro acc;rw [List.foldl_cons];refine Nat.le_trans (ih _) ?_;split <;> simp <;> omega
 have h := this l [];simpa [z1h] using h
end
section
variable {α : Type} {enc : α → List Value} {sz : Nat} {H : Heap}
theorem zf2 (hk : ∀ x, (enc x).length = sz) : ∀ (l : List α) (i : Nat) (x : α), i < l.length → (l.flatMap enc).take (i * sz) ++ enc x ++ (l.flatMap enc).drop (i * sz + sz) = (l.set i x).flatMap enc := by
 intro l
 induction l with
 | nil => intro i x h; simp at h
 | cons y l ih =>
  intro i x h;cases i with
  | zero =>
   rw [Nat.zero_mul, Nat.zero_add, List.take_zero, List.nil_append, List.flatMap_cons, List.set_cons_zero, List.flatMap_cons];rw [show sz = (enc y).length from (hk y).symm, List.drop_left]
  | succ i =>
   have := ih i x (by simpa using h);rw [List.flatMap_cons, List.set_cons_succ, List.flatMap_cons, ← this];rw [Nat.add_mul, Nat.one_mul];rw [List.take_append, List.drop_append, hk, List.take_of_length_le (by rw [hk]; omega), List.drop_eq_nil_of_le (by rw [hk]; omega)];rw [show i * sz + sz - sz = i * sz by omega, show i * sz + sz + sz - sz = i * sz + sz by omega];simp
theorem z6k (hk : ∀ x, (enc x).length = sz) (h1 : ∀ x, (enc x).all (·.oneCell') = true) {b t : Nat} {el : TypeId} {l : List α} {rest : List Value} {i : Nat} {x : α} (hH : H b = some (.cells (l.flatMap enc ++ rest) sz (some t) false (some el))) (hi : i < l.length) :
  z5d H ⟨b, 0 + i * sz, some t⟩ (enc x) = some (.cells ((l.set i x).flatMap enc ++ rest) sz (some t) false (some el)) := by
 have hfl := z0i hk l;have hle : (i + 1) * sz ≤ l.length * sz := Nat.mul_le_mul_right sz hi;rw [Nat.add_mul, Nat.one_mul] at hle;have hone := h1 x;unfold z5d;simp only [hH, Nat.zero_add];rw [if_pos ⟨trivial, by rw [List.length_append, hfl, hk]; omega, trivial, hone⟩];rw [hk, List.take_append_of_le_length (by rw [hfl]; omega), List.drop_append_of_le_length (by rw [hfl]; omega), ← List.append_assoc, ← zf2 hk l i x hi]
theorem z0H (hk : ∀ x, (enc x).length = sz) {b t : Nat} {el : TypeId} {l : List α} {rest : List Value} {i : Nat} (hH : H b = some (.cells (l.flatMap enc ++ rest) sz (some t) false (some el))) (hi : i < l.length) : z0M H ⟨b, 0 + i * sz, some t⟩ sz = some (enc l[i]) := by
 have hfl := z0i hk l;have hle : (i + 1) * sz ≤ l.length * sz := Nat.mul_le_mul_right sz hi;rw [Nat.add_mul, Nat.one_mul] at hle;unfold z0M;simp only [hH, Nat.zero_add];rw [if_pos ⟨trivial, by rw [List.length_append, hfl]; omega⟩, List.drop_append_of_le_length (by rw [hfl]; omega), List.take_append_of_le_length (by rw [List.length_drop, hfl]; omega), z5k hk l i hi]
theorem zbW {z : List Value} (n : Nat) : (z0t z n).length = n * z.length := by
 induction n with
 | zero => simp [z0t, rep]
 | succ n ih => simp_all [z0t, rep, List.replicate_succ, Nat.add_mul]; omega
theorem zbV {z : List Value} (h : z.all (·.oneCell') = true) (n : Nat) : (z0t z n).all (·.oneCell') = true := by
 induction n with
 | zero => simp [z0t, rep]
 | succ n ih => simp_all [z0t, rep, List.replicate_succ]
theorem z7S (hk : ∀ x, (enc x).length = sz) {b t k : Nat} {el : TypeId} {l : List α} {rest z : List Value} (hz : z.length = sz) (hz1 : z.all (·.oneCell') = true) (hH : H b = some (.cells (l.flatMap enc ++ rest) sz (some t) false (some el))) (hkl : k ≤ l.length) :
  ∃ rest', z5d H ⟨b, 0 + k * sz, some t⟩ (z0t z (l.length - k)) = some (.cells ((l.take k).flatMap enc ++ rest') sz (some t) false (some el)) := by
 have hfl := z0i hk l;have hft := z0i hk (l.take k);have hsplit : l.flatMap enc = (l.take k).flatMap enc ++ (l.drop k).flatMap enc := by rw [← List.flatMap_append, List.take_append_drop]
 have hmul : (l.length - k) * sz + k * sz = l.length * sz := by rw [← Nat.add_mul]; congr 1; omega
 refine ⟨z0t z (l.length - k) ++ ((l.flatMap enc ++ rest).drop (k * sz + (z0t z (l.length - k)).length)), ?_⟩;unfold z5d;simp only [hH, Nat.zero_add];rw [if_pos ⟨trivial, by rw [List.length_append, hfl, zbW, hz]; omega, trivial, zbV hz1 _⟩]
 have ht : (l.flatMap enc ++ rest).take (k * sz) = (l.take k).flatMap enc := by
  rw [hsplit, List.append_assoc, List.take_append_of_le_length (by rw [hft, List.length_take, Nat.min_eq_left hkl]; exact Nat.le_refl _), List.take_of_length_le (by rw [hft, List.length_take, Nat.min_eq_left hkl]; exact Nat.le_refl _)]
 rw [ht, List.append_assoc]
end
section
variable {P : Program} {W0 : World} {H : Heap} {nx n : Nat} {type : TypeId} {pos : String} {after : Array Edge} {ops : Array Oper} {l : List Oper} {tm : Nat → Value} {QQ : ASt → Prop}
theorem OpsL.clear {t el : TypeId} {x : Operand} {a : Addr} {m c : Nat} {z : List Value} {o : AObj} (hx : ASt.ev ⟨tm, n, H, nx⟩ x = some (.slice (some a) m c)) (hu : P.underlying t = some (.slice el)) (hz : z0B P el = some z) (hm : m ≠ 0) (hs : z5d H a (z0t z m) = some o) (h : OpsL P W0 ops l ⟨tm, n, H.put a.block o, nx⟩ QQ) :
  OpsL P W0 ops (⟨none, .call ⟨.builtin .clear, #[x], #[t]⟩, type, pos, after, none⟩ :: l) ⟨tm, n, H, nx⟩ QQ := by
 refine OpsL.upd (v := .tuple #[]) ?_ h;have hc : z8T P H #[t] (.slice (some a) m c) = none := by simp [z8T, hu]
 simp [aop, z0C, hx, z0G, hc, z7M, hu, hm, hz, hs]
end
end Go.Am
namespace Go.Am
section
variable {α : Type} {lt : α → α → Prop}
def z0O (lt : α → α → Prop) (l : List α) : Prop := l.Pairwise lt
def z1w (lt : α → α → Prop) (l : List α) : Prop := l.Pairwise fun x y => ¬ lt y x
structure OrdL (lt : α → α → Prop) : Prop where
 irr : ∀ x, ¬ lt x x
 tr : ∀ {x y z}, lt x y → lt y z → lt x z
 tot : ∀ {x y}, ¬ lt x y → ¬ lt y x → x = y
theorem z4x (ho : OrdL lt) : ∀ (l r : List α), z0O lt l → z0O lt r → (∀ x, x ∈ l ↔ x ∈ r) → l = r := by
 intro l
 induction l with
 | nil =>
  intro r _ _ h;cases r with
  | nil => rfl
  | cons y r => exact absurd ((h y).2 List.mem_cons_self) (by simp)
 | cons x l ih =>
  intro r hl hr h;cases r with
  | nil => exact absurd ((h x).1 List.mem_cons_self) (by simp)
  | cons y r =>
   unfold z0O at *;rw [List.pairwise_cons] at hl hr
   have hxy : x = y := by
    rcases List.mem_cons.1 ((h x).1 List.mem_cons_self) with e | hx
    ·exact e
    ·rcases List.mem_cons.1 ((h y).2 List.mem_cons_self) with e | hy
     ·exact e.symm
     ·exact absurd (ho.tr (hr.1 x hx) (hl.1 y hy)) (ho.irr _)
   subst hxy;congr 1;refine ih r hl.2 hr.2 fun z => ?_;constructor
   ·intro hz;rcases List.mem_cons.1 ((h z).1 (List.mem_cons_of_mem _ hz)) with e | hz'
    ·subst e; exact absurd (hl.1 z hz) (ho.irr _)
    ·exact hz'
   ·intro hz;rcases List.mem_cons.1 ((h z).2 (List.mem_cons_of_mem _ hz)) with e | hz'
    ·subst e; exact absurd (hr.1 z hz) (ho.irr _)
    ·exact hz'
variable [DecidableEq α]
theorem z2H (ho : OrdL lt) (l : List α) (h : z1w lt l) : z0O lt (z1h l) := by
 have key : ∀ n, n ≤ l.length → z0O lt (z1h (l.take n)) ∧ ∀ x ∈ z1h (l.take n), ∀ j (hj : j < l.length), n ≤ j → ¬ lt l[j] x := by
  have hmem : ∀ n, ∀ x ∈ z1h (l.take n), ∀ j (hj : j < l.length), n ≤ j → ¬ lt l[j] x := fun n x hx j hj hnj => by
   rw [z3q] at hx;obtain ⟨i, hi, rfl⟩ := List.getElem_of_mem hx;rw [List.length_take] at hi;rw [List.getElem_take];exact List.pairwise_iff_getElem.1 h i j zom hj zom
  intro n
  induction n with
  | zero => intro _; exact ⟨List.Pairwise.nil, fun x hx => by cases hx⟩
  | succ n ih =>
   intro hn;refine ⟨?_, hmem (n + 1)⟩;obtain ⟨i1, i2⟩ := ih zom;by_cases h0 : 0 < n
   ·rw [z1x l h0 zom];split
    ·exact i1
    ·rename_i hne;refine List.pairwise_append.2 ⟨i1, List.pairwise_singleton _ _, fun x hx y hy => ?_⟩;rw [List.mem_singleton] at hy;subst hy;by_cases hlt : lt x l[n]
     ·exact hlt
     ·have hxe : x = l[n] := ho.tot hlt (i2 x hx n zom (Nat.le_refl _));rw [z3q] at hx;obtain ⟨i, hi, hxi⟩ := List.getElem_of_mem hx;rw [List.length_take] at hi;rw [List.getElem_take] at hxi;exfalso
      have h1 : ¬ lt l[n - 1] l[i] := by
       by_cases e : i = n - 1
       ·subst e; exact ho.irr _
       ·exact List.pairwise_iff_getElem.1 h i (n - 1) zom zom zom
      have h2 : ¬ lt l[n] l[n - 1] := List.pairwise_iff_getElem.1 h (n - 1) n zom zom zom;have e1 : l[i] = l[n] := hxi.trans hxe;rw [e1] at h1;exact hne (ho.tot h1 h2)
   ·have : n = 0 := by omega
    subst this;rw [z49 _ (by simp; omega)]
    match l.take 1, (by simp; omega : (l.take 1).length ≤ 1) with
    | [], _ => exact List.Pairwise.nil
    | [x], _ => exact List.pairwise_singleton _ _
 have := (key l.length (Nat.le_refl _)).1
 rwa [List.take_length] at this
def zcO (lt : α → α → Prop) [DecidableRel lt] (x : α) : List α → List α
 | [] => [x]
 | y :: l => if lt x y then x :: y :: l else if x = y then y :: l else y :: zcO lt x l
def zu (lt : α → α → Prop) [DecidableRel lt] (l : List α) : List α := l.foldr (zcO lt) []
variable [DecidableRel lt]
theorem zbv (x z : α) (l : List α) : z ∈ zcO lt x l ↔ z = x ∨ z ∈ l := by
 induction l with
 | nil => simp [zcO]
 | cons y l ih =>
  unfold zcO;split
  ·simp
  ·split
   ·rename_i h; subst h; simp
   ·simp only [List.mem_cons, ih];constructor
    ·rintro (h | h | h)
     ·exact .inr (.inl h)
     ·exact .inl h
     ·exact .inr (.inr h)
    ·rintro (h | h | h)
     ·exact .inr (.inl h)
     ·exact .inl h
     ·exact .inr (.inr h)
theorem zaj (ho : OrdL lt) (x : α) {l : List α} (h : z0O lt l) : z0O lt (zcO lt x l) := by
 induction l with
 | nil => exact List.pairwise_singleton _ _
 | cons y l ih =>
  unfold z0O at h;rw [List.pairwise_cons] at h;unfold zcO;split
  ·rename_i hxy
   exact List.pairwise_cons.2 ⟨fun z hz => by
    rcases List.mem_cons.1 hz with rfl | hz
    ·exact hxy
    ·exact ho.tr hxy (h.1 z hz), List.pairwise_cons.2 h⟩
  ·split
   ·exact List.pairwise_cons.2 h
   ·rename_i h1 h2;refine List.pairwise_cons.2 ⟨fun z hz => ?_, ih h.2⟩;rcases (zbv x z l).1 hz with rfl | hz
    ·by_cases h3 : lt y z
     ·exact h3
     ·exact absurd (ho.tot h1 h3) h2
    ·exact h.1 z hz
theorem z0w (ho : OrdL lt) (l : List α) : z0O lt (zu lt l) := by
 induction l with
 | nil => exact List.Pairwise.nil
 | cons x l ih => exact zaj ho x ih
theorem z0n (x : α) (l : List α) : x ∈ zu lt l ↔ x ∈ l := by
 induction l with
 | nil => exact Iff.rfl
 | cons y l ih =>
  show x ∈ zcO lt y (zu lt l) ↔ _;rw [zbv, ih, List.mem_cons]
theorem z1B (ho : OrdL lt) {l r : List α} (h1 : z0O lt r) (h2 : ∀ x, x ∈ r ↔ x ∈ l) : r = zu lt l :=
 z4x ho _ _ h1 (z0w ho l) fun x => by rw [h2, z0n]
theorem zf0 (x : α) (l : List α) : (zcO lt x l).length ≤ l.length + 1 := by
 induction l with
 | nil => simp [zcO]
 | cons y l ih =>
  unfold zcO;split
  ·simp
  ·split
   ·simp
   ·simp only [List.length_cons]; omega
theorem z0o (l : List α) : (zu lt l).length ≤ l.length := by
 induction l with
 | nil => exact Nat.le_refl _
 | cons y l ih =>
  have := zf0 (lt := lt) y (zu lt l);show (zcO lt y (zu lt l)).length ≤ l.length + 1;omega
theorem z5l (ho : OrdL lt) {l : List α} (h : z0O lt l) : zu lt l = l := (z1B ho h fun _ => Iff.rfl).symm
end
def lt4 (x y : R4) : Prop := x.1 < y.1 ∨ (x.1 = y.1 ∧ (x.2.1 < y.2.1 ∨ (x.2.1 = y.2.1 ∧ (x.2.2.1 < y.2.2.1 ∨ (x.2.2.1 = y.2.2.1 ∧ x.2.2.2 < y.2.2.2)))))
def lt3 (x y : R3) : Prop := x.1 < y.1 ∨ (x.1 = y.1 ∧ (x.2.1 < y.2.1 ∨ (x.2.1 = y.2.1 ∧ x.2.2 < y.2.2)))
def lt1 (x y : Int) : Prop := x < y
instance : DecidableRel lt4 := fun x y => by unfold lt4; infer_instance
instance : DecidableRel lt3 := fun x y => by unfold lt3; infer_instance
instance : DecidableRel lt1 := fun x y => by unfold lt1; infer_instance
theorem z7a : OrdL lt4 where
 irr x := by unfold lt4; omega
 tr h1 h2 := by unfold lt4 at *; omega
 tot {x y} h1 h2 := by
  obtain ⟨a, b, c, d⟩ := x;obtain ⟨a2, b2, c2, d2⟩ := y;unfold lt4 at *;simp only at *;have e1 : a = a2 := by omega
  have e2 : b = b2 := by omega
  have e3 : c = c2 := by omega
  have e4 : d = d2 := by omega
  rw [e1, e2, e3, e4]
theorem zel : OrdL lt3 where
 irr x := by unfold lt3; omega
 tr h1 h2 := by unfold lt3 at *; omega
 tot {x y} h1 h2 := by
  obtain ⟨a, b, c⟩ := x;obtain ⟨a2, b2, c2⟩ := y;unfold lt3 at *;simp only at *;have e1 : a = a2 := by omega
  have e2 : b = b2 := by omega
  have e3 : c = c2 := by omega
  rw [e1, e2, e3]
theorem z9L : OrdL lt1 where
 irr x := by unfold lt1; omega
 tr h1 h2 := by unfold lt1 at *; omega
 tot h1 h2 := by unfold lt1 at *; omega
def orF : List Int → Int
 | [] => 0
 | x :: l => if x ≠ 0 then x else orF l
def zR (a : Aut) : Aut := ⟨a.N, a.G, zu lt1 a.init, zu lt1 a.final, zu lt4 a.opens, zu lt4 a.closes, zu lt3 a.inners⟩
end Go.Am
namespace Go.Am
open Go.RowKit
open Go.Sort hiding Below
theorem zak {W w' : World} (h : BelD W.heap.size W w') : ∃ q os', w' = grow (W.drewN q) os' := by
 refine ⟨w'.drawn - W.drawn, w'.heap.extract W.heap.size w'.heap.size, ?_⟩;have hd := h.drawn
 have hh : w'.heap = W.heap ++ w'.heap.extract W.heap.size w'.heap.size := by
  apply Array.ext_getElem?;intro i;by_cases hi : i < W.heap.size
  ·rw [Array.getElem?_append_left hi, h.block i hi]
  ·rw [Array.getElem?_append_right zom, Array.getElem?_extract];have hs := h.size;by_cases h2 : i < w'.heap.size
   ·rw [if_pos zom];congr 1; omega
   ·rw [if_neg zom, Array.getElem?_eq_none zom]
 obtain ⟨h1, h2, h3, h4, h5, h6⟩ := h;cases w';simp only [grow, World.drewN] at *;subst h1 h2 h3;congr 1;omega
def zfB : Value → Bool
 | .agg a => a.toList.all zL
 | v => zL v
theorem zdN {nx : Nat} {H : Heap} {C : Corr} {v : Value} (h : zfB v = true) : VR nx H C v v := by
 cases v with
 | agg a =>
  refine .agg a a rfl fun i p q => z1S (List.all_eq_true.1 h _ ?_);simp
 | _ => exact z1S h
variable {P : Program}
theorem z30 {f : FuncId} {args : List Value} {r : Value} (ha : args.all zfB = true) (hr : zL r = true)
  (h : ∀ w nx H, ACalls P w f args nx H fun v _ _ => v = r) (W : World) : Calls P f args.toArray W fun e w' => e = .returned r ∧ ∃ q os', w' = grow (W.drewN q) os' := by
 refine (h W NG (z2z []).get (z3v W) W args (z86 Tabs.nil (BelD.refl _ _)) ⟨rfl, fun i p _ => zdN (List.all_eq_true.1 ha _ (List.getElem_mem p))⟩).mono ?_;rintro e w' ⟨v, v', C', nx', H', rfl, rfl, hR', hv, hS⟩;refine ⟨?_, zak hR'.below⟩;cases hv <;> first | rfl | (simp [zL] at hr)
theorem ACalls.weaken {P : Program} {W0 : World} {nx : Nat} {H : Heap} {f : FuncId} {args : List Value} {R R' : Value → Nat → Heap → Prop} (h : ACalls P W0 f args nx H R) (hq : ∀ v n G, R v n G → R' v n G) : ACalls P W0 f args nx H R' := fun C w args' hR ha => by
 refine (h C w args' hR ha).mono ?_;rintro e w' ⟨v, v', C', nx', H', h1, h2, h3⟩;exact ⟨v, v', C', nx', H', h1, hq _ _ _ h2, h3⟩
end Go.Am
namespace Go.Proofs.YteplpegfcpmflaaGreat
open Go.Shelf Go.RowKit Go.Lib Go.Am
open Go.Sort hiding Below
shelf_lay_g SlLaysC2.n5 Slgc 5 at Tryz 45 as cmpIntL
abbrev zP : R4 → List Value := e4
abbrev z19 : R3 → List Value := e3
abbrev z9R : Int → List Value := z9Q
theorem z4X (l : List Int) : l.flatMap z9R = l.map (.int .i64 ·) := by
 induction l with
 | nil => rfl
 | cons x l ih => rw [List.flatMap_cons, ih]; rfl
theorem z03 (x : R4) : (zP x).length = 4 := rfl
theorem z14 (x : R3) : (z19 x).length = 3 := rfl
theorem zX (x : Int) : (z9R x).length = 1 := rfl
theorem z1Q (x : R4) : (zP x).all (·.oneCell') = true := rfl
theorem z60 (x : R3) : (z19 x).all (·.oneCell') = true := rfl
theorem z1o (x : Int) : (z9R x).all (·.oneCell') = true := rfl
theorem z0u : Tryz.prog.follows .mixedOrders = true := by kernel_rfl
theorem z6l {α : Type} {enc : α → List Value} {sz : Nat} {H : Heap} {a : Option Addr} {c : Nat} {l : List α} (h : RowsAt enc sz H (.slice a l.length c) l) {i : Nat} (h0 : 0 < i) (hi : i ≤ l.length) : ∃ p, a = some p ∧ z0M H ⟨p.block, p.off + ((i : Int) - 1).toNat * sz, p.spot⟩ sz = some (enc (l[i - 1]'zom)) := by
 obtain ⟨p, h1, h2⟩ := zS h (show i - 1 < l.length by omega);refine ⟨p, h1, ?_⟩;rw [show ((i : Int) - 1).toNat = ((i - 1 : Nat) : Int).toNat by omega];exact h2
def z2n (nx : Nat) (H : Heap) (nx' : Nat) (H' : Heap) (ob : Option (Nat × Nat)) : Prop := Ext nx H nx' H' ∧ ∀ b t, ob = some (b, t) → nx ≤ b ∧ b < nx'
def zcP (x y : R4) : Int := orF [Lib.compareInt x.1 y.1, Lib.compareInt x.2.1 y.2.1, Lib.compareInt x.2.2.1 y.2.2.1, Lib.compareInt x.2.2.2 y.2.2.2]
def zfw (x y : R3) : Int := orF [Lib.compareInt x.1 y.1, Lib.compareInt x.2.1 y.2.1, Lib.compareInt x.2.2 y.2.2]
theorem z6E (x y : Int) : (x < y ∧ Lib.compareInt x y = -1) ∨ (x = y ∧ Lib.compareInt x y = 0) ∨ (y < x ∧ Lib.compareInt x y = 1) := by
 unfold Lib.compareInt;by_cases h : x < y
 ·exact .inl ⟨h, by simp [h]⟩
 ·by_cases h2 : y < x
  ·exact .inr (.inr ⟨h2, by simp [h, h2]⟩)
  ·exact .inr (.inl ⟨zom, by simp [h, h2]⟩)
theorem z7K (x y : Int) : Lib.compareInt x y < 0 ↔ lt1 x y := by
 unfold lt1;rcases z6E x y with ⟨h, e⟩ | ⟨h, e⟩ | ⟨h, e⟩ <;> rw [e] <;> omega
theorem z1E (x y : Int) (l : List Int) : orF (Lib.compareInt x y :: l) < 0 ↔ x < y ∨ (x = y ∧ orF l < 0) := by
 have e0 : orF (Lib.compareInt x y :: l) = if Lib.compareInt x y ≠ 0 then Lib.compareInt x y else orF l := rfl
 rw [e0];rcases z6E x y with ⟨h, e⟩ | ⟨h, e⟩ | ⟨h, e⟩ <;> rw [e] <;> simp <;> omega
theorem z6f (x y : R4) : zcP x y < 0 ↔ lt4 x y := by
 unfold zcP lt4;rw [z1E, z1E, z1E, z1E];simp [orF]
theorem z7J (x y : R3) : zfw x y < 0 ↔ lt3 x y := by
 unfold zfw lt3;rw [z1E, z1E, z1E];simp [orF]
theorem zcu (x y : Int) (W : World) : Calls Tryz.prog 45 #[.int .i64 x, .int .i64 y] W fun e w' => e = .returned (.int .i64 (Lib.compareInt x y)) ∧ ∃ q os', w' = grow (W.drewN q) os' := by
 have h1 := AnyG.cmp_Compare_int cmpIntL x y W;refine h1.mono ?_;rintro e w' ⟨h2, h3⟩;exact ⟨h2, 0, #[], by rw [h3]; simp [grow, World.drewN]⟩
theorem z1G : Am.z0U Tryz.prog 45 := ⟨Tryz.f45, Tryz.func45, by kernel_rfl, by kernel_rfl⟩
theorem z9Y (W0 : World) {nx : Nat} {H : Heap} (x y : Int) : ACalls Tryz.prog W0 45 [.int .i64 x, .int .i64 y] nx H fun v nx' H' => v = .int .i64 (Lib.compareInt x y) ∧ nx' = nx ∧ H' = H :=
 (z3A (W0 := W0) (P := Tryz.prog) (f := 45) (args := [.int .i64 x, .int .i64 y]) (r := .int .i64 (Lib.compareInt x y)) z1G rfl rfl (fun w => (AnyG.cmp_Compare_int cmpIntL x y w).mono (by
  rintro e w' ⟨h1, h2⟩;subst h2;exact ⟨h1, BelD.refl _ _⟩))).2 nx H
theorem zd2 {A : Prop} (h : A := by
 have h1 : Tryz.prog.stoodInHeld zp0 = false := by kernel_rfl
 obtain ⟨a, b, c, d⟩ := x;obtain ⟨a2, b2, c2, d2⟩ := y
 have key : aEq Tryz.prog H 60 zp0 (.agg (zP (a, b, c, d)).toArray) (.agg (zP (a2, b2, c2, d2)).toArray) = some ((a == a2) && (b == b2) && (c == c2) && (d == d2)) := by
  cases h : (a == a2) <;> cases h2 : (b == b2) <;> cases h3 : (c == c2) <;> cases h4 : (d == d2) <;> simp [zP, e4, aEq, z27, z0D, z2y, h, h2, h3, h4, h1, zp1, Tryz.underlying3]
 rw [key, ← hr];congr 1;rw [Bool.eq_iff_iff];simp [and_assoc]) : A := h
namespace zd2a
noncomputable section
abbrev zp0 := 43
abbrev zp1 := @Tryz.underlying43
end
end zd2a
open zd2a in
theorem eqO (H : Heap) (x y : R4) (r : Bool) (hr : decide (x = y) = r) : aEq Tryz.prog H 60 43 (.agg (zP x).toArray) (.agg (zP y).toArray) = some r := zd2
namespace zd2b
noncomputable section
abbrev zp0 := 45
abbrev zp1 := @Tryz.underlying45
end
end zd2b
open zd2b in
theorem eqC (H : Heap) (x y : R4) (r : Bool) (hr : decide (x = y) = r) : aEq Tryz.prog H 60 45 (.agg (zP x).toArray) (.agg (zP y).toArray) = some r := zd2
theorem eqN (H : Heap) (x y : R3) (r : Bool) (hr : decide (x = y) = r) : aEq Tryz.prog H 60 51 (.agg (z19 x).toArray) (.agg (z19 y).toArray) = some r := by
 have h1 : Tryz.prog.stoodInHeld 51 = false := by kernel_rfl
 obtain ⟨a, b, c⟩ := x;obtain ⟨a2, b2, c2⟩ := y
 have key : aEq Tryz.prog H 60 51 (.agg (z19 (a, b, c)).toArray) (.agg (z19 (a2, b2, c2)).toArray) = some ((a == a2) && (b == b2) && (c == c2)) := by
  cases h : (a == a2) <;> cases h2 : (b == b2) <;> cases h3 : (c == c2) <;> simp [z19, e3, aEq, z27, z0D, z2y, h, h2, h3, h1, Tryz.underlying51, Tryz.underlying3]
 rw [key, ← hr];congr 1;rw [Bool.eq_iff_iff];simp [and_assoc]
end Go.Proofs.YteplpegfcpmflaaGreat
namespace Go.Proofs.YteplpegfcpmflaaGreat
open Go.RowKit Go.Am
attribute [local irreducible] aop OpsL Trip zI z2w OpsK OpsR
abbrev AtO (H : Heap) (v : Value) (l : List (R4)) : Prop := RowsAt zP 4 H v l
abbrev zaY (H : Heap) (ob : Option (Nat × Nat)) (v : Value) (l : List (R4)) : Prop := OwnOf zP 4 43 H ob v l
theorem zau : Am.z0U Tryz.prog 83 := ⟨Tryz.f83, Tryz.func83, by kernel_rfl, by kernel_rfl⟩
theorem zaz : Am.z0U Tryz.prog 67 := ⟨Tryz.f67, Tryz.func67, by kernel_rfl, by kernel_rfl⟩
theorem zd3 {A : Prop} (h : A := by
 refine zl (fn := zp0) (c := _) zp1 rfl (fun tm n hn0 htm => ?_);have e0 : tm 0 = .slice none 0 0 := htm 0;have e1 : tm 1 = .int .i64 m := htm 1;clear htm;replace hn0 : n = 27 := hn0;refine z5c ?_;refine z9G ?_;refine zfq ?_;refine zd (z4b evr zxr) ?_;refine zih ?_;by_cases h0 : 0 < m
 ·refine z2G ?_;refine z7z ?_;refine zbP ?_;refine zd (z4b evr zxr) ?_;refine zd (z07 (r := .slice none 0 0) (a := none) (b := some (.int .i64 0)) (c := none) evd rfl (by simp only [z2l, ASt.ev, zk, ↓reduceIte, reduceIte, Option.some.injEq, Nat.reduceEqDiff, Option.map_some]; rfl) rfl (z3e (el := zp2) (sz := 4) zxr zxr (.inl ⟨rfl, rfl⟩) (.inr ⟨.i64, rfl⟩))) ?_;refine z7y ?_;refine OpsL.new zsd (z4E (k := m) (el := zp2) (kd := .i64) (size := 4) (bytes := 32) (z := [.int .i64 0, .int .i64 0, .int .i64 0, .int .i64 0]) evd (by simp only [ASt.ev, zk, ↓reduceIte, reduceIte, Nat.reduceEqDiff, zL, *]; simp) zxr zxr zxr zxr zxr rfl h0 zom zom) ?_
  repeat (refine zd (by first | exact omv | exact z2i) ?_)
  refine zd (z07 (r := .slice (some ⟨nx, 0, some nx⟩) 0 0) (a := none) (b := some (.int .i64 0)) (c := none) evr rfl (by simp only [z2l, ASt.ev, zk, ↓reduceIte, reduceIte, Option.some.injEq, Nat.reduceEqDiff, Option.map_some]; rfl) rfl (by
   have := z06 (P := Tryz.prog) (H := H.put nx (.cells (z0t [.int .i64 0, .int .i64 0, .int .i64 0, .int .i64 0] m) 4 (some nx) false (some zp2))) (t := zp3) (el := zp2) (sz := 4) (a := ⟨nx, 0, some nx⟩) (len := m) (cap := m) (l := 0) (h := 0) (tg := nx) (lo := none) (hi := some (.int .i64 0)) zxr zxr zb rfl rfl rfl (.inl ⟨rfl, rfl⟩) (.inr ⟨.i64, rfl⟩) (Nat.le_refl _) (Nat.zero_le _);simpa using this)) ?_
  refine zcU ?_;refine ⟨.inr rfl, _, zx, some (nx, nx), ?_, ⟨zh, fun b t h => by cases h; exact ⟨Nat.le_refl _, Nat.lt_succ_self _⟩⟩⟩;refine ⟨by simp [zk], rfl, z0t [.int .i64 0, .int .i64 0, .int .i64 0, .int .i64 0] m, ?_⟩;rw [zb];simp
 ·refine z2e ?_;refine zii ?_;refine ⟨.inr rfl, _, zx, none, ⟨stp, rfl, rfl⟩, Ext.refl, fun b t h => by cases h⟩) : A := h
namespace zd3a
noncomputable section
abbrev zp0 := @Tryz.f83
abbrev zp1 := @Tryz.func83
abbrev zp2 := 43
abbrev zp3 := 26
end
end zd3a
open zd3a in
theorem zhJ (W0 : World) {nx m : Nat} {H : Heap} (hm : m ≤ 1000000) :
  ACalls Tryz.prog W0 83 [.slice none 0 0, .int .i64 m] nx H fun v nx' H' => ∃ ob, zaY H' ob v [] ∧ z2n nx H nx' H' ob := zd3
def zdA (H : Heap) (v : Value) (ls : List (Value × List (R4))) : Prop :=
 ∃ a, v = .slice (some ⟨a, 0, none⟩) ls.length ls.length ∧ H a = some (.cells (ls.map (·.1)) 1 none false (some 26)) ∧ ∀ x ∈ ls, AtO H x.1 x.2
def z1J (ls : List (Value × List (R4))) : List (R4) := ls.flatMap (·.2)
theorem z6F (ls : List (Value × List (R4))) {i : Nat} (h : i < ls.length) : z1J (ls.take (i + 1)) = z1J (ls.take i) ++ ls[i].2 := by
 unfold z1J;rw [List.take_add_one, List.getElem?_eq_getElem h, Option.toList_some, List.flatMap_append];simp
theorem zhS (W0 : World) {nx : Nat} {H : Heap} {v : Value} {ls : List (Value × List (R4))} (hr : zdA H v ls) (hm : (z1J ls).length ≤ 100000) (hl : ls.length ≤ 100) :
  ACalls Tryz.prog W0 67 [v] nx H fun v nx' H' => ∃ ob, zaY H' ob v (z1J ls) ∧ z2n nx H nx' H' ob := by
 obtain ⟨a, rfl, hH, hrows⟩ := hr;refine zl (fn := Tryz.f67) (c := _) Tryz.func67 rfl (fun tm n hn0 htm => ?_);have e0 : tm 0 = .slice (some ⟨a, 0, none⟩) ls.length ls.length := htm 0;clear htm;replace hn0 : n = 36 := hn0;refine Trip.ok fun hok => ?_;replace hok : ∀ id o, H id = some o → id < nx := hok
 have hcell : ∀ (G : Heap), G a = some (.cells (ls.map (·.1)) 1 none false (some 26)) → ∀ i (h : i < ls.length), zj G ⟨a, 0 + (i : Int).toNat * 1, none⟩ ls[i].1 := fun G hG i h => by
  have := z2v (off := i) hG (by simpa using h);simpa using this
 have hlen : ∀ i, i ≤ ls.length → (z1J (ls.take i)).length ≤ (z1J ls).length := fun i hi => by
  have h1 : z1J ls = z1J (ls.take i) ++ z1J (ls.drop i) := by
   unfold z1J;rw [← List.flatMap_append, List.take_append_drop]
  rw [h1, List.length_append]; omega
 refine z9I ?_;refine zD (fun (i : Nat) st => ∃ (tm : Nat → Value), st = ⟨tm, n, H, nx⟩ ∧ tm 0 = .slice (some ⟨a, 0, none⟩) ls.length ls.length ∧ tm 9 = .slice (some ⟨a, 0, none⟩) ls.length ls.length ∧ tm 10 = .int .i64 ls.length ∧ tm 11 = .int .i64 i ∧ tm 3 = .int .i64 (z1J (ls.take i)).length ∧ i ≤ ls.length) (fun i => ls.length - i) 0 ?_ ?_
 ·exact ⟨_, rfl, stp, stp, stp, stp, by simp [zk, z1J], zom⟩
 ·clear e0;rintro i st ⟨tm, rfl, e0, e9, e10, e11, e3, hi⟩;by_cases hlt : i < ls.length
  ·have hc := hcell H hH i hlt;obtain ⟨ua, uc, hu⟩ := (hrows _ (List.getElem_mem hlt)).slice;have hst := z6F ls hlt;have hl1 := hlen (i + 1) zom;rw [hst, List.length_append] at hl1;rw [hu] at hc;generalize ls[i].2 = us at *;generalize z1J (ls.take i) = zs at *;refine zi7 ?_;exact ⟨i + 1, ⟨_, rfl, stp, stp, stp, stp, by rw [hst]; simp [zk, *], zom⟩, zom⟩
  ·have hin : i = ls.length := by omega
   subst hin;rw [List.take_length] at e3;refine zaV ?_;refine zfr ?_;refine OpsL.c2 (hf := zau) (hc := (zhJ W0 (m := (z1J ls).length) zom).ok) (h := ?_);rintro gv nx1 H1 ⟨⟨ob1, ho1, hx1, hob1⟩, hok1⟩;refine z9I ?_;refine zD (fun (i : Nat) st => ∃ (tm : Nat → Value) (nx' : Nat) (H' : Heap) (ob : Option (Nat × Nat)) (v : Value), st = ⟨tm, n, H', nx'⟩ ∧ z2n nx H nx' H' ob ∧ (∀ id o, H' id = some o → id < nx') ∧ zaY H' ob v (z1J (ls.take i)) ∧ tm 25 = .slice (some ⟨a, 0, none⟩) ls.length ls.length ∧ tm 26 = .int .i64 ls.length ∧ tm 27 = .int .i64 i ∧ tm 6 = v ∧ i ≤ ls.length) (fun i => ls.length - i) 0 ?_ ?_
   ·exact ⟨_, _, _, ob1, gv, rfl, ⟨hx1, hob1⟩, hok1, ho1, stp, stp, stp, stp, zom⟩
   ·clear e0 e9 e10 e11 e3 ho1 hx1 hob1 hok1;rintro i st ⟨tm, nx', H', ob, v, rfl, ⟨hx, hob⟩, hok', hown, e25, e26, e27, e6, hi⟩;by_cases hlt : i < ls.length
    ·have hst := z6F ls hlt;have hl1 := hlen (i + 1) zom;rw [hst, List.length_append] at hl1;have hrow := (hrows _ (List.getElem_mem hlt)).ext hx hok;have hc := hcell H' (by rw [hx.2 a (hok _ _ hH)]; exact hH) i hlt;obtain ⟨ua, uc, hu⟩ := hrow.slice;rw [hu] at hc hrow;generalize ls[i].2 = us at *;generalize z1J (ls.take i) = zs at *;refine zft ?_;refine zJ (bytes := 32) (z := [.int .i64 0, .int .i64 0, .int .i64 0, .int .i64 0]) z03 z1Q zom zsd hown hrow evd evd (fun b t h => (hob b t h).2) zxr zxr zxr zxr zxr rfl zom zom ?_;intro v' nx2 H2 ob2 hA;refine zg8 ?_;refine ⟨i + 1, ⟨_, nx2, H2, ob2, v', rfl, ⟨⟨by have := hx.1; have := hA.le; omega, fun j hj => ?_⟩, fun b t h => ?_⟩, ?_, by rw [hst]; exact hA.own, stp, stp, stp, stp, zom⟩, zom⟩
     ·rw [hA.same j (by have := hx.1; omega) (fun b t h => by have := (hob b t h).1; omega), hx.2 j hj]
     ·obtain ⟨q1, q2⟩ := hA.blk b t h;refine ⟨?_, q1⟩;rcases q2 with rfl | ⟨t', h'⟩
      ·exact hx.1
      ·exact (hob _ _ h').1
     ·exact hA.ok (fun b t h => (hob b t h).2) hok'
    ·have hin : i = ls.length := by omega
     subst hin;rw [List.take_length] at hown;refine zaV ?_;refine z9P ?_;exact ⟨.inr rfl, _, zx, ob, stp, hx, hob⟩
end Go.Proofs.YteplpegfcpmflaaGreat
namespace Go.Proofs.YteplpegfcpmflaaGreat
open Go.RowKit Go.Am
attribute [local irreducible] aop OpsL Trip zI z2w OpsK OpsR
theorem zaD : Am.z0U Tryz.prog 69 := ⟨Tryz.f69, Tryz.func69, by kernel_rfl, by kernel_rfl⟩
theorem zd4 {A : Prop} (h : A := by
 have hrow := h.at z03;obtain ⟨va, vc, rfl⟩ := hrow.slice;refine zl (fn := zp0) (c := _) zp1 rfl (fun tm n hn0 htm => ?_);have e0 : tm 0 = .slice va l.length vc := htm 0;clear htm;replace hn0 : n = 61 := hn0;by_cases hsh : l.length < 2
 ·repeat (first | (refine zd (by first | exact omv | exact z0E | exact z2i) ?_) | refine Trip.seq ?_ | refine zm ?_ | (refine OpsL.nil ?_; (change Trip _ _ _ _ _)))
  refine z8C ?_;refine zcU ?_;exact ⟨.inr rfl, _, zx, rfl, by rw [z49 l zom]; simp [zk, *], fun _ _ => rfl⟩
 ·obtain ⟨b, t, rfl⟩ : ∃ b t, ob = some (b, t) := by
   cases ob with
   | none => obtain ⟨_, _, h2⟩ := h; omega
   | some bt => exact ⟨_, _, rfl⟩
  obtain ⟨hv, _, rest, hH⟩ := h;obtain ⟨rfl, _, rfl⟩ := Value.slice.inj hv
  have hS : ∀ (G : Heap) (A rest : List Value), G b = some (.cells (A ++ rest) 4 (some t) false (some zp2)) → ∀ k, k < l.length → z0Q Tryz.prog G zp3 (.slice (some ⟨b, 0, some t⟩) l.length l.length) (some (.int .i64 k)) none none = some (.slice (some ⟨b, 0 + k * 4, some t⟩) (l.length - k) (l.length - k)) := fun G A rest hG k hk => by
   have := z06 (P := Tryz.prog) (H := G) (t := zp3) (el := zp2) (sz := 4) (a := ⟨b, 0, some t⟩) (len := l.length) (cap := l.length) (l := k) (h := l.length) (tg := t) (lo := some (.int .i64 k)) (hi := none) zxr zxr hG rfl rfl rfl (.inr ⟨.i64, rfl⟩) (.inl ⟨rfl, rfl⟩) zom (Nat.le_refl _);rw [if_neg zom] at this;exact this
  have hS2 : ∀ (G : Heap) (A rest : List Value), G b = some (.cells (A ++ rest) 4 (some t) false (some zp2)) → ∀ k, k ≤ l.length → z0Q Tryz.prog G zp3 (.slice (some ⟨b, 0, some t⟩) l.length l.length) none (some (.int .i64 k)) none = some (.slice (some ⟨b, 0, some t⟩) k k) := fun G A rest hG k hk => by
   have := z06 (P := Tryz.prog) (H := G) (t := zp3) (el := zp2) (sz := 4) (a := ⟨b, 0, some t⟩) (len := l.length) (cap := l.length) (l := 0) (h := k) (tg := t) (lo := none) (hi := some (.int .i64 k)) zxr zxr hG rfl rfl rfl (.inl ⟨rfl, rfl⟩) (.inr ⟨.i64, rfl⟩) (Nat.zero_le _) hk;simpa using this
  refine zgL ?_;refine z9G ?_;refine zfO ?_;refine zD (fun (k : Nat) st => ∃ (tm : Nat → Value), st = ⟨tm, n, H, nx⟩ ∧ tm 0 = .slice (some ⟨b, 0, some t⟩) l.length l.length ∧ tm 3 = .int .i64 k ∧ 1 ≤ k ∧ k ≤ l.length ∧ ∀ i (h : i < l.length), 0 < i → i < k → l[i - 1] ≠ l[i]) (fun k => l.length - k) 1 ?_ ?_
  ·exact ⟨_, rfl, stp, by simp [zk], zom, zom, fun i h h0 h1 => by omega⟩
  ·clear e0;rintro k st ⟨tm, rfl, e0, e3, hk1, hk2, hne⟩;by_cases hlt : k < l.length
   ·repeat (first | (refine zd (by first | exact omv | exact z2i) ?_) | refine Trip.seq ?_ | refine zm ?_)
    refine z78 ?_;have g1 := z0H z03 hH hlt;have g2 := z0H z03 hH (show k - 1 < l.length by omega);refine Trip.mono (Q := fun e st => e = .normal ∧ ∃ (tm' : Nat → Value), st = ⟨tm', n, H, nx⟩ ∧ tm' 25 = .bool (decide (l[k] = l[k - 1])) ∧ tm' 0 = .slice (some ⟨b, 0, some t⟩) l.length l.length ∧ tm' 3 = .int .i64 k) ?_ ?_
    ·refine OpsK.drawn (K := fun _ _ => True) z0u krf krf trivial ?_;refine zfo ?_;refine zd (zg (k := 4) (vs := zP l[k]) evr zxr rfl zxr (by show z0M H ⟨b, 0 + (k : Int).toNat * 4, some t⟩ 4 = _; rw [Int.toNat_natCast]; exact g1)) ?_;refine zbN ?_;refine zd (zg (k := 4) (vs := zP l[k - 1]) evr zxr rfl zxr (by show z0M H ⟨b, 0 + ((k : Int) - 1).toNat * 4, some t⟩ 4 = _; rw [show ((k : Int) - 1).toNat = k - 1 by omega]; exact g2)) ?_;refine z3M ?_;refine zd (zbE (r := decide (l[k] = l[k - 1])) evd evd krf (zp4 _ _ _ _ rfl)) ?_;refine z67 ?_;exact ⟨rfl, _, rfl, by simp [zk], stp, stp⟩
    ·rintro e st ⟨rfl, tm', rfl, e25, e0, e3⟩;dsimp only;clear g1 g2;by_cases heq : l[k] = l[k - 1]
     ·rw [decide_eq_true heq] at e25
      repeat fail
      refine z0F ?_;refine zcJ ?_;refine zd (z07 (a := some (.int .i64 k)) (b := none) (c := none) evd zer rfl rfl (hS H _ _ hH k hlt)) ?_;refine z7B ?_
      have hd0 : z1h (l.take (k + 1)) = l.take k := by
       rw [z1x l zom hlt, if_pos heq.symm];exact z2E l k zom (fun i hi a c => hne i hi a c)
      refine zD (fun (k2 : Nat) st => ∃ (tm : Nat → Value) (H' : Heap) (A : List (R4)) (rest : List Value) (kk : Nat), st = ⟨tm, n, H', nx⟩ ∧ H' b = some (.cells (A.flatMap zP ++ rest) 4 (some t) false (some zp2)) ∧ A.length = l.length ∧ (∀ i, i ≠ b → H' i = H i) ∧ tm 0 = .slice (some ⟨b, 0, some t⟩) l.length l.length ∧ tm 3 = .int .i64 kk ∧ tm 4 = .slice (some ⟨b, 0 + k * 4, some t⟩) (l.length - k) (l.length - k) ∧ tm 5 = .int .i64 k2 ∧
       1 ≤ kk ∧ kk ≤ k + k2 - 1 ∧ 1 ≤ k2 ∧ k2 ≤ l.length - k ∧ A.take kk = z1h (l.take (k + k2)) ∧ A.drop (k + k2 - 1) = l.drop (k + k2 - 1)) (fun k2 => l.length - k - k2) 1 ?_ ?_
      ·exact ⟨_, H, l, rest, k, rfl, hH, rfl, fun _ _ => rfl, stp, stp, stp, stp, zom, zom, zom, zom, hd0.symm, rfl⟩
      ·clear e0 e3 e25;rintro k2 st ⟨tm, H', A, rest', kk, rfl, hG, hAl, hsame, e0, e3, e4, e5, k1, k3, k4, k5, hta, hda⟩;by_cases hlt2 : k + k2 < l.length
       ·have hA1 : A[k + k2]'zom = l[k + k2] := by
         have : (A.drop (k + k2 - 1))[1]? = (l.drop (k + k2 - 1))[1]? := by rw [hda]
         rw [List.getElem?_drop, List.getElem?_drop, show k + k2 - 1 + 1 = k + k2 by omega, List.getElem?_eq_getElem zom, List.getElem?_eq_getElem hlt2] at this;exact Option.some.inj this
        have hA2 : A[k + k2 - 1]'zom = l[k + k2 - 1] := by
         have : (A.drop (k + k2 - 1))[0]? = (l.drop (k + k2 - 1))[0]? := by rw [hda]
         rw [List.getElem?_drop, List.getElem?_drop, Nat.add_zero, List.getElem?_eq_getElem zom, List.getElem?_eq_getElem zom] at this;exact Option.some.inj this
        have hstep := z1x l (m := k + k2) zom hlt2
        have hdn : A.drop (k + (k2 + 1) - 1) = l.drop (k + (k2 + 1) - 1) := by
         have := congrArg (List.drop 1) hda;rw [List.drop_drop, List.drop_drop] at this;rw [show k + (k2 + 1) - 1 = k + k2 - 1 + 1 by omega]; exact this
        have g1 := z0H z03 hG (show k + k2 < A.length by omega);have g2 := z0H z03 hG (show k + k2 - 1 < A.length by omega);rw [hA1] at g1;rw [hA2] at g2
        replace g1 : z0M H' ⟨b, 0 + k * 4 + (k2 : Int).toNat * 4, some t⟩ 4 = some (zP l[k + k2]) := by
         rw [Int.toNat_natCast, show 0 + k * 4 + k2 * 4 = 0 + (k + k2) * 4 by omega]; exact g1
        replace g2 : z0M H' ⟨b, 0 + k * 4 + ((k2 : Int) - 1).toNat * 4, some t⟩ 4 = some (zP l[k + k2 - 1]) := by
         rw [show 0 + k * 4 + ((k2 : Int) - 1).toNat * 4 = 0 + (k + k2 - 1) * 4 by omega]; exact g2
        refine z5f ?_;refine z78 ?_;refine Trip.mono (Q := fun e st => e = .normal ∧ ∃ (tm' : Nat → Value), st = ⟨tm', n, H', nx⟩ ∧ tm' 44 = .bool (!decide (l[k + k2] = l[k + k2 - 1])) ∧ tm' 0 = .slice (some ⟨b, 0, some t⟩) l.length l.length ∧ tm' 3 = .int .i64 kk ∧ tm' 4 = .slice (some ⟨b, 0 + k * 4, some t⟩) (l.length - k) (l.length - k) ∧ tm' 5 = .int .i64 k2) ?_ ?_
        ·refine OpsK.drawn (K := fun _ _ => True) z0u krf krf trivial ?_;refine zfo ?_;refine zd (zg (k := 4) (vs := zP l[k + k2]) evr zxr rfl zxr g1) ?_;refine zbN ?_;refine zd (zg (k := 4) (vs := zP l[k + k2 - 1]) evr zxr rfl zxr g2) ?_;refine z3M ?_;refine zd (z4a (r := decide (l[k + k2] = l[k + k2 - 1])) evd evd krf (zp4 _ _ _ _ rfl)) ?_;refine z67 ?_;exact ⟨rfl, _, rfl, by simp [zk], stp, stp, stp, stp⟩
        ·rintro e st ⟨rfl, tm', rfl, e44, e0, e3, e4, e5⟩;dsimp only;by_cases he2 : l[k + k2] = l[k + k2 - 1]
         ·rw [decide_eq_true he2] at e44;rw [if_pos he2.symm] at hstep
          repeat fail
          refine zg3 ?_;exact ⟨k2 + 1, ⟨_, H', A, rest', kk, rfl, hG, hAl, hsame, stp, stp, stp, stp, k1, zom, zom, zom, by rw [hta, ← hstep]; rfl, hdn⟩, zom⟩
         ·rw [decide_eq_false he2] at e44;rw [if_neg (fun h => he2 h.symm)] at hstep
          repeat fail
          refine z0F ?_;refine zgK ?_;refine zd (zg (k := 4) (vs := zP l[k + k2]) evr zxr rfl zxr g1) ?_;refine zcY ?_
          refine OpsL.upd (zw (u := .agg (zP l[k + k2]).toArray) (o := .cells ((A.set kk l[k + k2]).flatMap zP ++ rest') 4 (some t) false (some zp2)) evr evd zxr rfl (by
           have := z6k (x := l[k + k2]) z03 z1Q hG (show kk < A.length by omega);show z5d H' ⟨b, 0 + (kk : Int).toNat * 4, some t⟩ (zP l[k + k2]) = _;rw [Int.toNat_natCast]; exact this)) ?_
          refine zg8 ?_;refine ⟨k2 + 1, ⟨_, _, A.set kk l[k + k2], rest', kk + 1, rfl, zb, by rw [List.length_set]; exact hAl, fun i hi => by show Heap.put H' b _ i = _; rw [za hi]; exact hsame i hi, stp, stp, stp, stp, zom, zom, zom, zom, ?_, ?_⟩, zom⟩
          ·rw [show k + (k2 + 1) = k + k2 + 1 by omega, hstep, ← hta, List.take_add_one, List.getElem?_set_self zom, List.take_set_of_le (Nat.le_refl _)];rfl
          ·rw [List.drop_set_of_lt zom];exact hdn
       ·have hk2 : k2 = l.length - k := by omega
        rw [show k + k2 = l.length by omega, List.take_length] at hta;refine z5f ?_;refine z9G ?_;refine zfr ?_;refine zd (z07 (a := some (.int .i64 kk)) (b := none) (c := none) evd zer rfl rfl (hS H' _ _ hG kk zom)) ?_;obtain ⟨rest2, hend⟩ := z7S (k := kk) (z := [.int .i64 0, .int .i64 0, .int .i64 0, .int .i64 0]) z03 rfl rfl hG zom;rw [hAl, hta] at hend;refine OpsL.clear (z := [.int .i64 0, .int .i64 0, .int .i64 0, .int .i64 0]) evr zxr zxr zom hend ?_;refine z7A ?_;have hlen : (z1h l).length = kk := by rw [← hta, List.length_take]; omega
        refine zd (z07 (a := none) (b := some (.int .i64 kk)) (c := none) evd rfl zer rfl (hS2 _ _ rest2 zb kk zom)) ?_;refine zif ?_;refine ⟨.inr rfl, _, zx, rfl, ?_, fun i hi => ?_⟩
        ·refine ⟨by simp [zk, hlen], by rw [z0i z03], rest2, zb⟩
        ·show Heap.put H' b _ i = _;rw [za (hi b t rfl)];exact hsame i (hi b t rfl)
     ·rw [decide_eq_false heq] at e25
      repeat fail
      refine zg3 ?_;refine ⟨k + 1, ⟨_, rfl, stp, stp, zom, zom, fun i hi h0 h1 => ?_⟩, zom⟩;by_cases hik : i = k
      ·subst hik;exact fun hh => heq hh.symm
      ·exact hne i hi h0 zom
   ·repeat (first | (refine zd (by first | exact omv | exact z2i) ?_) | refine Trip.seq ?_ | refine zm ?_)
    refine z9G ?_;refine z9P ?_;have hd := z2E l l.length (Nat.le_refl _) (fun i hi a c => hne i hi a zom);rw [List.take_length] at hd;refine ⟨.inr rfl, _, zx, rfl, ?_, fun _ _ => rfl⟩;rw [hd];exact ⟨stp, by rw [z0i z03], rest, hH⟩) : A := h
namespace zd4a
noncomputable section
abbrev zp0 := @Tryz.f69
abbrev zp1 := @Tryz.func69
abbrev zp2 := 43
abbrev zp3 := 26
abbrev zp4 := @eqO
end
end zd4a
open zd4a in
theorem zhW (W0 : World) {nx : Nat} {H : Heap} {ob : Option (Nat × Nat)} {v : Value} {l : List (R4)} (h : zaY H ob v l) (hl : l.length ≤ 100000) :
  ACalls Tryz.prog W0 69 [v] nx H fun v' nx' H' => nx' = nx ∧ zaY H' ob v' (z1h l) ∧ ∀ i, (∀ b t, ob = some (b, t) → i ≠ b) → H' i = H i := zd4
end Go.Proofs.YteplpegfcpmflaaGreat

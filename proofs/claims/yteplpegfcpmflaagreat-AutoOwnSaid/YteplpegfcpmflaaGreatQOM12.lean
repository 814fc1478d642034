import Derived.Shelf.Lay
import Derived.Shelf.Sort.Plain
import Derived.Shelf.Slices.In.SortNone
import Derived.Ground.NamesProg
import Derived.Test.YteplpegfcpmflaaGreatQOM11
set_option linter.unusedSimpArgs false
set_option linter.unusedVariables false
set_option maxRecDepth 100000
set_option maxHeartbeats 64000000
namespace Go.Am
open Go.RowKit
theorem zb5 : ∀ (k : Nat) (l : List Nat), l.Nodup → (∀ i ∈ l, i < k) → l.length ≤ k := by
 intro k
 induction k with
 | zero =>
  intro l _ h;cases l with
  | nil => simp
  | cons x l => have := h x (by simp); omega
 | succ k ih =>
  intro l hn h
  have h1 := ih (l.erase k) (hn.erase k) (fun i hi => by
   have h2 := h i (List.mem_of_mem_erase hi);have h3 : i ≠ k := fun e => by subst e; exact hn.not_mem_erase hi
   omega)
  have := List.length_erase (a := k) (l := l);split at this <;> omega
def z4Y (l : List Int) : List Int := l.mergeSort fun x y => decide (x ≤ y)
theorem z3V (l : List Int) : (z4Y l).Perm l := List.mergeSort_perm _ _
theorem zed {l : List Int} (h : l.Nodup) : (z4Y l).Pairwise (· < ·) := by
 have h1 : (z4Y l).Pairwise (fun x y => decide (x ≤ y) = true) := List.pairwise_mergeSort (fun a b c h1 h2 => by simp at *; omega) (fun a b => by simp; omega) l;have h2 : (z4Y l).Nodup := (z3V l).nodup_iff.2 h;exact (h1.and h2).imp (fun {x y} h => by obtain ⟨h3, h4⟩ := h; simp at h3; omega)
def zcJ (P : Program) (W0 : World) (f : FuncId) (el : TypeId) : Prop := ∀ (nx : Nat) (H : Heap) (ob : Option (Nat × Nat)) (v : Value) (l : List Int), OwnInts H ob el v l → l.length < 1000000000000 → ACalls P W0 f [v] nx H fun r nx' H' => r = .tuple #[] ∧ nx' = nx ∧ OwnInts H' ob el v (z4Y l) ∧ ∀ k, (∀ b t, ob = some (b, t) → k ≠ b) → H' k = H k
structure Picked (F : List Thg) (kind : Int) (seen : List Nat) (xs : List Int) : Prop where
 nodup : xs.Nodup
 sn : seen.Nodup
 lt : ∀ i ∈ seen, i < F.length
 told : ∀ x, x ∈ xs ↔ ∃ i ∈ seen, F[i]? = some (kind, x)
 len : xs.length ≤ seen.length
theorem Picked.nil {F : List Thg} {kind : Int} : Picked F kind [] [] := ⟨List.nodup_nil, List.nodup_nil, by simp, by simp, by simp⟩
theorem z4p {F : List Thg} {kind : Int} {seen : List Nat} {i : Nat} (h : seen.Nodup) (hl : ∀ j ∈ seen, j < F.length) (hi : i < F.length) (hs : i ∉ seen) : (seen ++ [i]).Nodup ∧ ∀ j ∈ seen ++ [i], j < F.length := by
 refine ⟨?_, fun j hj => ?_⟩
 ·rw [List.nodup_append];exact ⟨h, by simp, fun a ha b hb => by rw [List.mem_singleton] at hb; subst hb; exact fun e => hs (e ▸ ha)⟩
 ·rcases List.mem_append.1 hj with h | h
  ·exact hl j h
  ·rw [List.mem_singleton] at h; omega
theorem Picked.old {F : List Thg} {kind : Int} {seen : List Nat} {xs : List Int} {i : Nat} {t : Thg} (h : Picked F kind seen xs) (hi : i < F.length) (hs : i ∉ seen) (ht : F[i]? = some t) (hk : ¬ t.1 = kind) : Picked F kind (seen ++ [i]) xs := by
 obtain ⟨h1, h2⟩ := z4p (kind := kind) h.sn h.lt hi hs;refine ⟨h.nodup, h1, h2, fun x => ?_, by rw [List.length_append]; have := h.len; omega⟩;rw [h.told x];constructor
 ·rintro ⟨j, hj, he⟩; exact ⟨j, by simp [hj], he⟩
 ·rintro ⟨j, hj, he⟩;rcases List.mem_append.1 hj with hj | hj
  ·exact ⟨j, hj, he⟩
  ·rw [List.mem_singleton] at hj; subst hj; rw [ht] at he; cases he; exact absurd rfl hk
theorem Picked.new {F : List Thg} {kind : Int} {seen : List Nat} {xs : List Int} {i : Nat} {t : Thg} (h : Picked F kind seen xs) (hF : F.Nodup) (hi : i < F.length) (hs : i ∉ seen) (ht : F[i]? = some t) (hk : t.1 = kind) : Picked F kind (seen ++ [i]) (xs ++ [t.2]) := by
 obtain ⟨h1, h2⟩ := z4p (kind := kind) h.sn h.lt hi hs;have hte : t = (kind, t.2) := by rw [← hk]
 have hnew : t.2 ∉ xs := fun hm => by
  obtain ⟨j, hj, he⟩ := (h.told _).1 hm;rw [← hte] at he;have := (List.getElem?_inj (h.lt j hj) hF).1 (he.trans ht.symm);subst this;exact hs hj
 refine ⟨?_, h1, h2, fun x => ?_, by rw [List.length_append, List.length_append]; have := h.len; simp; omega⟩
 ·rw [List.nodup_append];exact ⟨h.nodup, by simp, fun a ha b hb => by rw [List.mem_singleton] at hb; subst hb; exact fun e => hnew (e ▸ ha)⟩
 ·rw [List.mem_append, h.told x, List.mem_singleton];constructor
  ·rintro (⟨j, hj, he⟩ | rfl)
   ·exact ⟨j, by simp [hj], he⟩
   ·exact ⟨i, by simp, by rw [ht, ← hte]⟩
  ·rintro ⟨j, hj, he⟩;rcases List.mem_append.1 hj with hj | hj
   ·exact .inl ⟨j, hj, he⟩
   ·rw [List.mem_singleton] at hj; subst hj; rw [ht] at he; cases he; exact .inr rfl
theorem Picked.all {F : List Thg} {kind : Int} {seen : List Nat} {xs : List Int} (h : Picked F kind seen xs) (hall : ∀ i, i < F.length → i ∈ seen) : xs.Nodup ∧ ∀ x, x ∈ xs ↔ (kind, x) ∈ F := by
 refine ⟨h.nodup, fun x => ?_⟩;rw [h.told x];constructor
 ·rintro ⟨j, _, he⟩; exact List.mem_of_getElem? he
 ·intro hm;obtain ⟨j, hj, he⟩ := List.mem_iff_getElem.1 hm;exact ⟨j, hall j hj, by rw [List.getElem?_eq_getElem hj, he]⟩
end Go.Am
namespace Go.Proofs.YteplpegfcpmflaaGreat
open Go.RowKit Go.Am
attribute [local irreducible] aop OpsL Trip zI z2r OpsK OpsR
theorem z4S : Am.z0O Tryz.prog 26 := ⟨Tryz.f26, Tryz.func26, by kernel_rfl, by kernel_rfl⟩
theorem z93 : Am.z0O Tryz.prog 62 := ⟨Tryz.f62, Tryz.func62, by kernel_rfl, by kernel_rfl⟩
theorem zfJ (H : Heap) (x y : Int) : aEq Tryz.prog H 60 3 (.int .i64 x) (.int .i64 y) = some (decide (x = y)) := by
 have key : aEq Tryz.prog H 60 3 (.int .i64 x) (.int .i64 y) = some (x == y) := by
  cases h : (x == y) <;> simp [aEq, h, Tryz.underlying3]
 rw [key];congr 1
theorem zbQ (H : Heap) (k : Int) : ∀ (l : List (Value × Value)) (i : Nat), (∀ e ∈ l, ∃ y : Int, e.1 = .int .i64 y ∧ k ≠ y) → z18 Tryz.prog H 3 (.int .i64 k) l i = some none := by
 intro l
 induction l with
 | nil => intro i _; rfl
 | cons e l ih =>
  intro i h;obtain ⟨⟨y, hy, hne⟩, h2⟩ := List.forall_mem_cons.1 h;obtain ⟨a, b⟩ := e;dsimp only at hy;subst hy;simp only [z18, zfJ, decide_eq_false hne];exact ih (i + 1) h2
theorem z9J (k : Int) (H : Heap) : z1a Tryz.prog 60 3 (.int .i64 k) = true ∧ z8h H (.int .i64 k) = true := ⟨by kernel_rfl, by kernel_rfl⟩
def z9t (L : List Int) (i : Nat) : List (Value × Value) := (List.range i).map fun j => (.int .i64 (L.getD j 0), .int .i64 (j : Int))
theorem zdk (L : List Int) (i : Nat) : z9t L (i + 1) = z9t L i ++ [(.int .i64 (L.getD i 0), .int .i64 (i : Int))] := by
 unfold z9t;rw [List.range_succ, List.map_append];rfl
theorem zes (L : List Int) (i : Nat) : (z9t L i).length = i := by simp [z9t]
theorem zeo {H : Heap} {m i : Nat} {L : List Int} (hm : H m = some (.map (z9t L i) (List.range i) i)) (hL : L.Pairwise (· < ·)) (hi : i < L.length) :
  zP Tryz.prog H 55 (.map (some m)) (.int .i64 L[i]) (.int .i64 (i : Int)) = some (.upd m (.map (z9t L (i + 1)) (List.range (i + 1)) (i + 1))) := by
 obtain ⟨c1, c2⟩ := z9J L[i] H
 have hno := zbQ H L[i] (z9t L i) 0 (fun e he => by
  obtain ⟨j, hj, rfl⟩ := List.mem_map.1 he;have hj' : j < i := by simpa using hj
  refine ⟨_, rfl, ?_⟩;have := List.pairwise_iff_getElem.1 hL j i zom hi hj';rw [List.getD_eq_getElem?_getD, List.getElem?_eq_getElem zom, Option.getD_some];omega)
 unfold zP;simp only [Tryz.underlying55, hm, c1, c2, show (Tryz.prog.underlying 3).isSome = true from rfl, and_self, if_true, hno];rw [zdk, List.range_succ, List.getD_eq_getElem?_getD, List.getElem?_eq_getElem hi, Option.getD_some]
theorem zb3 (W0 : World) (hsort : zcJ Tryz.prog W0 62 3) {nx m : Nat} {H : Heap} {F : List Thg} {kind : Int} (hF : F.Nodup) (hl : F.length ≤ 1000000) (hm : H m = (some (.map (F.map fun t => (thV t, .agg #[])) (List.range F.length) F.length))) :
  ACalls Tryz.prog W0 26 [.map (some m), .int .i64 kind] nx H fun v nx' H' => ∃ (m2 : Nat) (L : List Int), v = .map (some m2) ∧ H' m2 = some (.map (z9t L L.length) (List.range L.length) L.length) ∧ L.Pairwise (· < ·) ∧ (∀ x, x ∈ L ↔ (kind, x) ∈ F) ∧ nx ≤ m2 ∧ m2 < nx' ∧ Ext nx H nx' H' := by
 refine zm (fn := Tryz.f26) (c := _) Tryz.func26 rfl (fun tm n hn0 htm => ?_);have q0 : tm 0 = .map (some m) := htm 0;have q1 : tm 1 = .int .i64 kind := htm 1;clear htm;replace hn0 : n = 40 := hn0;refine Trip.ok fun hok => ?_;replace hok : ∀ id o, H id = some o → id < nx := hok;have hmn : m < nx := hok _ _ hm;refine z6v ?_;refine OpsL.new zsd (zc6 evd zxr hm) ?_;have ok1 := zF (o := .miter (some m) F.length [] F.length) hok;have hx1 : Ext nx H (nx + 1) (H.put nx (.miter (some m) F.length [] F.length)) := zj;have hi1 : (H.put nx (.miter (some m) F.length [] F.length)) nx = some (.miter (some m) F.length [] F.length) := zb;generalize H.put nx (.miter (some m) F.length [] F.length) = H1 at *
 repeat (first | refine Trip.block ?_ | (refine OpsL.nil ?_; (change Trip _ _ _ _ _)))
 refine zu (fun (seen : List Nat) st => ∃ (tm' : Nat → Value) (nx' : Nat) (H' : Heap) (ob : Option (Nat × Nat)) (v : Value) (xs : List Int), st = ⟨tm', n, H', nx'⟩ ∧ Ext nx H nx' H' ∧ nx + 1 ≤ nx' ∧ H' nx = some (.miter (some m) F.length seen F.length) ∧ OwnInts H' ob 3 v xs ∧ (∀ b t, ob = some (b, t) → nx + 1 ≤ b ∧ b < nx') ∧ Picked F kind seen xs ∧ tm' 1 = .int .i64 kind ∧ tm' 5 = v ∧ tm' 11 = .pointer (some ⟨nx, 0, none⟩)) (fun seen => F.length - seen.length) [] ?_ ?_
 ·exact ⟨_, _, _, none, _, [], rfl, hx1, zom, hi1, ⟨rfl, rfl, rfl⟩, fun _ _ h => (by cases h), Picked.nil, stp, stp, stp⟩
 ·clear q0 q1 hi1 ok1 hx1;rintro seen st ⟨tm, nx', H', ob, v, xs, rfl, hext, hle, hit, hown, hob, hP, q1, q5, q11⟩;refine Trip.ok fun hok' => ?_;replace hok' : ∀ id o, H' id = some o → id < nx' := hok';have hm' : H' m = (some (.map (F.map fun t => (thV t, .agg #[])) (List.range F.length) F.length)) := (hext.2 m hmn).trans hm;obtain ⟨rs, hn, hcs⟩ := zbH hit hm' (by simp);refine Trip.seq ?_;refine zcb rfl zsd evd hn ?_;intro x hx;rcases hcs x hx with ⟨rfl, hall⟩ | ⟨i, key, val, hik, his, he, rfl⟩
  ·clear hcs hx hn;obtain ⟨hnd, hmem⟩ := hP.all hall;have hxl : xs.length ≤ F.length := by have := hP.len; have := zb5 _ _ hP.sn hP.lt; omega
   have hLs := zed hnd;have hLl : (z4Y xs).length ≤ 1000000 := by rw [(z3V xs).length_eq]; omega
   have hLm : ∀ x, x ∈ z4Y xs ↔ (kind, x) ∈ F := fun x => ((z3V xs).mem_iff).trans (hmem x);change OpsL _ _ _ _ ⟨zl tm (some 12) (.tuple #[.bool false]), n, H', nx'⟩ _;refine zd (v := .bool false) (zR evr zxr) ?_;refine zdU ?_;refine z0h ?_;refine zfo ?_;refine z0c (hf := z93) (hc := (hsort nx' H' ob v xs hown zom)) (h := ?_);rintro r nx2 H2 ⟨rfl, rfl, hown2, hsame⟩
   have ok2 : ∀ id o, H2 id = some o → id < nx2 := fun id o h => by
    by_cases hb : ∃ t, ob = some (id, t)
    ·obtain ⟨t, hb⟩ := hb; exact (hob _ _ hb).2
    ·rw [hsame id (fun b t h e => hb ⟨t, by rw [h, e]⟩)] at h; exact hok' _ _ h
   generalize z4Y xs = L at *;refine zfk ?_;refine OpsL.new zsd z2b ?_;have gm : (H2.put nx2 (.map [] [] 0)) nx2 = some (.map [] [] 0) := zb;have hG : ∀ j, j ≠ nx2 → (H2.put nx2 (.map [] [] 0)) j = H2 j := fun j hj => za hj;generalize H2.put nx2 (.map [] [] 0) = G at *;have hownG : ∀ HH : Heap, (∀ j, j ≠ nx2 → HH j = H2 j) → OwnInts HH ob 3 v L := fun HH h => OwnRow.same (fun b t hb => h b (by have := hob b t hb; omega)) hown2;obtain ⟨va, vc, rfl⟩ := (hownG G hG).at.slice;refine zaF ?_;refine zu (fun (i : Nat) st => ∃ (tm' : Nat → Value) (H' : Heap), st = ⟨tm', n, H', nx2 + 1⟩ ∧ (∀ j, j ≠ nx2 → H' j = H2 j) ∧ H' nx2 = some (.map (z9t L i) (List.range i) i) ∧ tm' 7 = .map (some nx2) ∧ tm' 28 = .slice va L.length vc ∧ tm' 29 = .int .i64 L.length ∧ tm' 30 = .int .i64 i ∧ i ≤ L.length) (fun i => L.length - i) 0 ?_ ?_
   ·exact ⟨_, _, rfl, hG, gm, stp, stp, stp, stp, Nat.zero_le _⟩
   ·clear q1 q5 q11 gm hG;rintro i st ⟨tm, H5, rfl, hfr, hmp, q7, q28, q29, q30, hi⟩;by_cases hlt : i < L.length
    ·obtain ⟨p, rfl, hc⟩ := (hownG H5 hfr).at.get hlt;have hput := zeo hmp hLs hlt;replace hc : zh H5 ⟨p.block, p.off + (i : Int).toNat * 1, p.spot⟩ (.int .i64 L[i]) := by simpa using hc
     generalize L[i] = y at *;refine zfp ?_;refine OpsL.upd (z10 evd evd evd hput) ?_;refine zgo ?_;exact ⟨i + 1, ⟨_, _, rfl, fun j hj => by rw [za hj]; exact hfr j hj, zb, stp, stp, stp, stp, zom⟩, zom⟩
    ·obtain rfl : i = L.length := by omega
     refine zcl ?_;refine z9w ?_;refine ⟨.inr rfl, _, zy, nx2, L, stp, hmp, hLs, hLm, zom, zom, zom, fun j hj => ?_⟩;rw [hfr j zom, hsame j (fun b t hb => by have := hob b t hb; omega), hext.2 j hj]
  ·clear hcs hx hn
   obtain ⟨t, ht, hkv⟩ : ∃ t, F[i]? = some t ∧ (thV t, Value.agg #[]) = (key, val) := by
    rw [List.getElem?_map] at he;cases hF : F[i]? with
    | none => rw [hF] at he; cases he
    | some t => rw [hF] at he; exact ⟨t, rfl, by simpa using he⟩
   cases hkv;obtain ⟨hn2, hl2⟩ := z4p (kind := kind) hP.sn hP.lt hik his;have hsl := zb5 _ _ hn2 hl2;rw [List.length_append, List.length_singleton] at hsl;have hxl := hP.len;change OpsL _ _ _ _ ⟨zl tm (some 12) (.tuple #[.bool true, thV t, .agg #[]]), n, H'.put nx (.miter (some m) F.length (seen ++ [i]) F.length), nx'⟩ _;have hH2 : ∀ j, j ≠ nx → (H'.put nx (.miter (some m) F.length (seen ++ [i]) F.length)) j = H' j := fun j hj => za hj;have hit2 : (H'.put nx (.miter (some m) F.length (seen ++ [i]) F.length)) nx = some (.miter (some m) F.length (seen ++ [i]) F.length) := zb;have ok2 := zV (o := .miter (some m) F.length (seen ++ [i]) F.length) hok' hit;generalize H'.put nx (.miter (some m) F.length (seen ++ [i]) F.length) = H2 at *;refine zd (v := .bool true) (zR evr zxr) ?_;refine zdU ?_;refine z11 ?_;refine zfx ?_;refine zd (zdB evd (zbU hit2 ((hH2 m zom).trans hm') hik (he : (F.map fun t => (thV t, Value.agg #[]))[i]? = _))) ?_;refine zd (v := thV t) (zR evr zxr) ?_;refine OpsL.new zsd (zD (l := (rep 2 [.int .i64 0])) krf) ?_;refine OpsL.upd (zw (k := 2) (u := thV t) evd evd zxr rfl (o := .cells (z1q t) 0 none false (some 101)) (zE (vs := (z1q t)) zb rfl rfl)) ?_;obtain ⟨G5, hG5⟩ : ∃ G0, G0 = (H2.put nx' (.cells (rep 2 [.int .i64 0]) 0 none false (some 101))).put nx' (.cells (z1q t) 0 none false (some 101)) := ⟨_, rfl⟩;have xG5 : Ext nx' H2 (nx' + 1) G5 := ⟨Nat.le_succ _, fun j hj => by rw [hG5, za zom, za zom]⟩;have kG5 : ∀ id o, G5 id = some o → id < nx' + 1 := by rw [hG5]; exact zV (zF ok2) zb
   have bG5 : G5 nx' = some (.cells (z1q t) 0 none false (some 101)) := by rw [hG5, zb]
   first | rw [← hG5] | skip
   clear hG5;have c0 : zh G5 ⟨nx', 0, none⟩ (.int .i64 t.1) := by exact ze bG5 rfl
   have c1 : zh G5 ⟨nx', 0 + 1, none⟩ (.int .i64 t.2) := by rw [Nat.zero_add]; exact ze bG5 rfl
   have hit5 := (xG5.2 nx zom).trans hit2;have hown5 : OwnInts G5 ob 3 v xs := OwnRow.same (fun b t hb => by rw [xG5.2 b (hob b t hb).2, hH2 b (by have := hob b t hb; omega)]) hown;have hext5 : Ext nx H (nx' + 1) G5 := ⟨zom, fun j hj => by rw [xG5.2 j zom, hH2 j zom, hext.2 j hj]⟩
   repeat (first | (refine zd (by first | exact omv | exact zfr | exact ofa | exact old) ?_) | refine Trip.seq ?_ | refine zk ?_ | refine z1u (fun _ => ?_) (fun _ => ?_) | (refine OpsL.nil ?_; (change Trip _ _ _ _ _)))
   ·rename_i hk;refine z1C zsd zsd evr (by decide) (by (simp only [zl, ↓reduceIte, reduceIte, Option.some.injEq, Nat.reduceEqDiff, *])) hown5 (fun b t hb => Nat.lt_succ_of_lt (hob b t hb).2) zxr zxr zxr zxr zom ?_;rintro v6 ob6 H6 hown6 ⟨b6, rfl, hb6⟩ hs6
    have hbb : nx + 1 ≤ b6 ∧ b6 < nx' + 1 + 1 + 1 := by
     rcases hb6 with rfl | ⟨t6, hb6⟩
     ·exact ⟨zom, zom⟩
     ·have := hob _ _ hb6; exact ⟨zom, zom⟩
    have hit6 := (hs6 nx zom (fun b t hb => by have := (hob b t hb).1; omega)).trans hit5;have hext6 : Ext nx H (nx' + 1 + 1 + 1) H6 := ⟨zom, fun j hj => by rw [hs6 j zom (fun b t hb => by have := (hob b t hb).1; omega)]; exact hext5.2 j hj⟩;have hP6 := hP.new hF hik his ht hk
    repeat (first | refine zd (by exact z0y) ?_ | (refine OpsL.nil ?_; ((repeat (refine zQ ?_)); dsimp only)))
    refine ⟨seen ++ [i], ⟨_, _, _, some (b6, nx' + 1 + 1), v6, _, rfl, hext6, zom, hit6, hown6, fun b' t' h => by cases h; exact hbb, hP6, stp, stp, stp⟩, by show F.length - (seen ++ [i]).length < F.length - seen.length; rw [List.length_append, List.length_singleton]; omega⟩
   ·rename_i hk;have hP6 := hP.old hik his ht hk
    repeat (first | (refine Trip.skip ?_; ((repeat (refine zQ ?_)); dsimp only)))
    exact ⟨seen ++ [i], ⟨_, _, _, ob, v, xs, rfl, hext5, zom, hit5, hown5, fun b' t' h => by have := hob _ _ h; omega, hP6, stp, stp, stp⟩, by show F.length - (seen ++ [i]).length < F.length - seen.length; rw [List.length_append, List.length_singleton]; omega⟩
end Go.Proofs.YteplpegfcpmflaaGreat
namespace Go.Proofs.YteplpegfcpmflaaGreat
open Go.RowKit Go.Am
attribute [local irreducible] aop OpsL Trip zI z2r OpsK OpsR
def z8b : List Int → Int → Nat → Option Nat
 | [], _, _ => none
 | y :: l, k, i => if k = y then some i else z8b l k (i + 1)
def zdZ : List Int → Nat → List (Value × Value)
 | [], _ => []
 | y :: l, i => (.int .i64 y, .int .i64 (i : Int)) :: zdZ l (i + 1)
theorem zet : ∀ (l : List Int) (i j : Nat), (zdZ l i)[j]? = (l[j]?).map fun y => ((.int .i64 y, .int .i64 ((i + j : Nat) : Int)) : Value × Value) := by
 intro l
 induction l with
 | nil => intro i j; simp [zdZ]
 | cons y l ih =>
  intro i j;cases j with
  | zero => simp [zdZ]
  | succ j =>
   simp only [zdZ, List.getElem?_cons_succ, ih, show i + 1 + j = i + (j + 1) by omega]
theorem zcQ (L : List Int) : z9t L L.length = zdZ L 0 := by
 apply List.ext_getElem?;intro j;rw [zet];unfold z9t;rw [List.getElem?_map];by_cases h : j < L.length
 ·rw [List.getElem?_eq_getElem (by simpa using h), List.getElem_range, List.getElem?_eq_getElem h];simp only [Option.map_some, List.getD_eq_getElem?_getD, List.getElem?_eq_getElem h, Option.getD_some, Nat.zero_add]
 ·rw [List.getElem?_eq_none (by simpa using Nat.le_of_not_lt h), List.getElem?_eq_none (Nat.le_of_not_lt h)];rfl
theorem z8B (H : Heap) (k : Int) : ∀ (l : List Int) (i j : Nat), z18 Tryz.prog H 3 (.int .i64 k) (zdZ l i) j = some ((z8b l k i).map fun p => (j + (p - i), Value.int .i64 (p : Int))) ∧ ∀ p, z8b l k i = some p → i ≤ p := by
 intro l
 induction l with
 | nil => intro i j; exact ⟨rfl, fun p h => by cases h⟩
 | cons y l ih =>
  intro i j;by_cases hk : k = y
  ·subst hk;refine ⟨?_, fun p h => by simp [z8b] at h; omega⟩;simp only [zdZ, z18, zfJ, decide_true, z8b, if_true, Option.map_some, Nat.sub_self, Nat.add_zero]
  ·obtain ⟨h1, h2⟩ := ih (i + 1) (j + 1);refine ⟨?_, fun p h => by simp only [z8b, hk, if_false] at h; have := h2 p h; omega⟩;simp only [zdZ, z18, zfJ, z8b, hk, if_false, decide_false, h1];cases hp : z8b l k (i + 1) with
   | none => rfl
   | some p =>
    have := h2 p hp;simp only [Option.map_some, show j + 1 + (p - (i + 1)) = j + (p - i) by omega]
def NumAt (H : Heap) (v : Value) (L : List Int) : Prop := ∃ m, v = .map (some m) ∧ H m = some (.map (z9t L L.length) (List.range L.length) L.length)
theorem NumAt.ext {nx nx' : Nat} {H H' : Heap} {v : Value} {L : List Int} (h : NumAt H v L) (hx : Ext nx H nx' H') (hok : ∀ id o, H id = some o → id < nx) : NumAt H' v L := by
 obtain ⟨m, h1, h2⟩ := h;exact ⟨m, h1, by rw [hx.2 m (hok _ _ h2)]; exact h2⟩
def z0T (L : List Int) (n : Int) : Option Int := (z8b L n 0).map fun p => (p : Int)
theorem NumAt.told {H : Heap} {v : Value} {L : List Int} (h : NumAt H v L) (n : Int) : z1U Tryz.prog H 55 v (.int .i64 n) true = some (.tuple #[.int .i64 ((z0T L n).getD 0), .bool (z0T L n).isSome]) := by
 obtain ⟨m, rfl, hm⟩ := h;have hmo : z4z H (.map (some m)) = some (z9t L L.length) := by simp only [z4z, hm]
 obtain ⟨c1, _⟩ := z9J n H;unfold z1U;simp only [Tryz.underlying55, hmo, show z6A Tryz.prog 3 = some (.int .i64 0) from rfl, c1, show (Tryz.prog.underlying 3).isSome = true from rfl, and_self, if_true, zcQ, (z8B H n L 0 0).1, z0T];cases z8b L n 0 <;> rfl
theorem NumAt.told1 {H : Heap} {v : Value} {L : List Int} (h : NumAt H v L) (n : Int) : z1U Tryz.prog H 55 v (.int .i64 n) false = some (.int .i64 ((z0T L n).getD 0)) := by
 obtain ⟨m, rfl, hm⟩ := h;have hmo : z4z H (.map (some m)) = some (z9t L L.length) := by simp only [z4z, hm]
 obtain ⟨c1, _⟩ := z9J n H;unfold z1U;simp only [Tryz.underlying55, hmo, show z6A Tryz.prog 3 = some (.int .i64 0) from rfl, c1, show (Tryz.prog.underlying 3).isSome = true from rfl, and_self, if_true, zcQ, (z8B H n L 0 0).1, z0T];cases z8b L n 0 <;> rfl
def zJ (L l : List Int) : List Int := l.filterMap (z0T L)
theorem z58 (L : List Int) {l : List Int} {i : Nat} (h : i < l.length) : zJ L (l.take (i + 1)) = zJ L (l.take i) ++ (z0T L l[i]).toList := by
 unfold zJ;rw [List.take_succ_eq_append_getElem h, List.filterMap_append];congr 1
theorem z3c : Am.z0O Tryz.prog 27 := ⟨Tryz.f27, Tryz.func27, by kernel_rfl, by kernel_rfl⟩
theorem zcy (W0 : World) {nx : Nat} {H : Heap} {u v : Value} {L l : List Int} (hl : IntsAt H u l) (hll : l.length ≤ 1000000) (hv : NumAt H v L) :
  ACalls Tryz.prog W0 27 [u, v] nx H fun r nx' H' => ∃ ob, OwnInts H' ob 3 r (zJ L l) ∧ (∀ b t, ob = some (b, t) → nx ≤ b ∧ b < nx') ∧ Ext nx H nx' H' := by
 refine zm (fn := Tryz.f27) (c := _) Tryz.func27 rfl (fun tm n hn0 htm => ?_);have q0 : tm 0 = u := htm 0;have q1 : tm 1 = v := htm 1;clear htm;replace hn0 : n = 29 := hn0;refine Trip.ok fun hok => ?_;replace hok : ∀ id o, H id = some o → id < nx := hok;obtain ⟨ua, uc, rfl⟩ := hl.slice;refine zaF ?_;refine zu (fun (i : Nat) st => ∃ (tm' : Nat → Value) (nx' : Nat) (H' : Heap) (ob : Option (Nat × Nat)) (r : Value), st = ⟨tm', n, H', nx'⟩ ∧ Ext nx H nx' H' ∧ OwnInts H' ob 3 r (zJ L (l.take i)) ∧ (∀ b t, ob = some (b, t) → nx ≤ b ∧ b < nx') ∧ tm' 1 = v ∧ tm' 5 = r ∧ tm' 10 = .slice ua l.length uc ∧ tm' 11 = .int .i64 l.length ∧ tm' 12 = .int .i64 i ∧ i ≤ l.length) (fun i => l.length - i) 0 ?_ ?_
 ·exact ⟨_, _, _, none, _, rfl, Ext.refl, ⟨rfl, rfl, rfl⟩, fun _ _ h => (by cases h), stp, stp, stp, stp, stp, Nat.zero_le _⟩
 ·clear q0 q1;rintro i st ⟨tm, nx', H', ob, r, rfl, hext, hown, hob, q1, q5, q10, q11, q12, hi⟩;refine Trip.ok fun hok' => ?_;replace hok' : ∀ id o, H' id = some o → id < nx' := hok';have hle := hext.1
  have hkl : (zJ L (l.take i)).length ≤ l.length := by
   have h1 : (zJ L (l.take i)).length ≤ (l.take i).length := List.length_filterMap_le _ _;rw [List.length_take] at h1;omega
  by_cases hlt : i < l.length
  ·obtain ⟨p, rfl, hc⟩ := hl.get hlt;have hkt := (hv.ext hext hok).told l[i];have hks := z58 L hlt
   replace hc : zh H' ⟨p.block, p.off + (i : Int).toNat * 1, p.spot⟩ (.int .i64 l[i]) := by
    have := z1r hext hok hc;simpa [zh] using this
   generalize l[i] = y at *;refine zfp ?_;refine zd (z0k evd evd hkt) ?_;cases hy : z0T L y with
   | none =>
    rw [hy, Option.toList_none, List.append_nil] at hks;simp only [Option.getD_none, Option.isSome_none];refine z87 ?_;refine zd (v := .int .i64 0) (zR evr zxr) ?_;refine zd (v := .bool false) (zR evr zxr) ?_;refine z6v ?_;refine zck ?_;exact ⟨i + 1, ⟨_, _, _, ob, r, rfl, hext, by rw [hks]; exact hown, hob, stp, stp, stp, stp, stp, zom⟩, zom⟩
   | some z =>
    rw [hy, Option.toList_some] at hks;simp only [Option.getD_some, Option.isSome_some];refine z87 ?_;refine zd (v := .int .i64 z) (zR evr zxr) ?_;refine zd (v := .bool true) (zR evr zxr) ?_;refine z6v ?_;refine z11 ?_;refine zbs ?_;refine z1C zsd zsd evr (by decide) (by (simp only [zl, ↓reduceIte, reduceIte, Option.some.injEq, Nat.reduceEqDiff, *])) hown (fun b t hb => (hob b t hb).2) zxr zxr zxr zxr zom ?_;rintro v6 ob6 H6 hown6 ⟨b6, rfl, hb6⟩ hs6
    have hbb : nx ≤ b6 ∧ b6 < nx' + 1 + 1 := by
     rcases hb6 with rfl | ⟨t6, hb6⟩
     ·exact ⟨zom, zom⟩
     ·have := hob _ _ hb6; exact ⟨zom, zom⟩
    have hext6 : Ext nx H (nx' + 1 + 1) H6 := ⟨zom, fun j hj => by rw [hs6 j zom (fun b t hb => by have := (hob b t hb).1; omega)]; exact hext.2 j hj⟩;refine zg7 ?_;exact ⟨i + 1, ⟨_, _, _, some (b6, nx' + 1), v6, rfl, hext6, by rw [hks]; exact hown6, fun b' t' h => by cases h; exact hbb, stp, stp, stp, stp, stp, zom⟩, zom⟩
  ·have hin : i = l.length := by omega
   subst hin;rw [List.take_length] at hown;refine zcl ?_;refine z9w ?_;exact ⟨.inr rfl, _, zy, ob, stp, hob, hext⟩
end Go.Proofs.YteplpegfcpmflaaGreat
namespace Go.Proofs.YteplpegfcpmflaaGreat
open Go.RowKit Go.Am
theorem z67 {α : Type} [DecidableEq α] : ∀ (l m : List α), l.Nodup → (∀ x ∈ l, x ∈ m) → l.length ≤ m.length := by
 intro l
 induction l with
 | nil => intro m _ _; simp
 | cons x l ih =>
  intro m hn h;obtain ⟨h1, h2⟩ := List.nodup_cons.1 hn;have hx := h x (by simp)
  have := ih (m.erase x) h2 (fun y hy => by
   have hne : y ≠ x := fun e => h1 (e ▸ hy);exact (List.mem_erase_of_ne hne).2 (h y (by simp [hy])))
  rw [List.length_erase_of_mem hx] at this;have := List.length_pos_of_mem hx;simp only [List.length_cons];omega
theorem z6T {a : Aut} {t : Thg} (h : ReachT a t) : t ∈ z8a a := by
 cases h with
 | bot => simp [z8a]
 | init hs => simp only [z8a, List.mem_append, List.mem_cons, List.mem_map]; exact .inl (.inr ⟨_, hs, rfl⟩)
 | step hm _ ht => simp only [z8a, List.mem_append, List.mem_flatMap]; exact .inr ⟨_, hm, ht⟩
theorem zaY {a : Aut} (hn : AutLen a) : (z8a a).length ≤ 10000 := by
 have h1 := z3Y hn;have h2 := hn.init
 have h3 : ∀ l : List R4, (l.flatMap z0t).length = 2 * l.length := fun l => by
  induction l with
  | nil => rfl
  | cons x l ih => simp only [List.flatMap_cons, List.length_append, ih, List.length_cons]; have : (z0t x).length = 2 := rfl; omega
 simp only [z8a, List.length_append, List.length_cons, List.length_map, h3];omega
theorem zdp {a : Aut} {F : List Thg} (hn : AutLen a) (hF : F.Nodup) (hr : ∀ t, t ∈ F ↔ ReachT a t) : F.length ≤ 10000 :=
 Nat.le_trans (z67 F (z8a a) hF fun t ht => z6T ((hr t).1 ht)) (zaY hn)
def z17 (L0 L1 : List Int) (r : R4) : Option R4 := (z0T L0 r.1).map fun f => (f, r.2.1, (z0T L0 r.2.2.1).getD 0, (z0T L1 r.2.2.2).getD 0)
def z1m (L0 L1 : List Int) (r : R4) : Option R4 := (z0T L0 r.1).bind fun f => (z0T L1 r.2.2.1).map fun t => (f, r.2.1, t, (z0T L0 r.2.2.2).getD 0)
def z2Q (L0 : List Int) (r : R3) : Option R3 := (z0T L0 r.1).map fun f => (f, r.2.1, (z0T L0 r.2.2).getD 0)
def z02 (a : Aut) (L0 L1 : List Int) : Aut := ⟨L0.length, (L1.length : Int) - 1, zJ L0 a.init, zJ L0 a.final, a.opens.filterMap (z17 L0 L1), a.closes.filterMap (z1m L0 L1), a.inners.filterMap (z2Q L0)⟩
def z1E (a : Aut) (kind : Int) (L : List Int) : Prop := L.Pairwise (· < ·) ∧ ∀ x, x ∈ L ↔ ReachT a (kind, x)
theorem zb2 {a : Aut} {kind : Int} {L : List Int} (hn : AutLen a) (h : z1E a kind L) : L.length ≤ 10000 := by
 have h1 : (L.map fun x => ((kind, x) : Thg)).Nodup := by
  rw [List.nodup_iff_pairwise_ne, List.pairwise_map];exact h.1.imp fun {x y} hlt e => by cases e; omega
 have := z67 _ (z8a a) h1 (fun t ht => by
  obtain ⟨x, hx, rfl⟩ := List.mem_map.1 ht;exact z6T ((h.2 x).1 hx))
 rw [List.length_map] at this;exact Nat.le_trans this (zaY hn)
theorem z0Z {α β : Type} (f : α → Option β) {l : List α} {i : Nat} (h : i < l.length) : (l.take (i + 1)).filterMap f = (l.take i).filterMap f ++ (f l[i]).toList := by
 rw [List.take_succ_eq_append_getElem h, List.filterMap_append];congr 1
section
variable {P : Program} {H : Heap} {nx : Nat} {ev : Operand → Option Value} {dst : Option Tmp} {type : TypeId} {pos : String} {after : Array Edge} {guard : Option (Nat × Bool)}
theorem zeO {t k e : TypeId} {x : Operand} {m : Nat} {es : List (Value × Value)} {bs : List Nat} {clk : Nat} (hx : ev x = some (.map (some m))) (hu : P.underlying t = some (.map k e)) (hm : H m = some (.map es bs clk)) :
  aop P H nx ev ⟨dst, .call ⟨.builtin .len, #[x], #[t]⟩, type, pos, after, guard⟩ = some (.int .i64 es.length, .none) := by simp [aop, hx, z0B, z0F, zgt, hu, z4z, hm]
end
end Go.Proofs.YteplpegfcpmflaaGreat
namespace Go.Proofs.YteplpegfcpmflaaGreat
open Go.RowKit Go.Am
attribute [local irreducible] aop OpsL Trip zI z2r OpsK OpsR
theorem z9V {a : Aut} (hi0 : ∀ s, ¬ s ∈ a.init) (hm0 : ∀ m, ¬ m ∈ z0b a) (t : Thg) : t ∈ [((1, 0) : Thg)] ↔ ReachT a t := by
 constructor
 ·intro h;rw [List.mem_singleton] at h;subst h;exact .bot
 ·intro h;cases h with
  | bot => simp
  | init hs => exact absurd hs (hi0 _)
  | step hm _ _ => exact absurd hm (hm0 _)
theorem zhp (W0 : World) {nx : Nat} {H : Heap} {a : Aut} {vi vf vo vc vn : Value} (ha : AutIn H a vi vf vo vc vn) (hn : AutLen a) (hi0 : ∀ s, ¬ s ∈ a.init) (hm0 : ∀ m, ¬ m ∈ z0b a) :
  ACalls Tryz.prog W0 25 [.agg (zz a vi vf vo vc vn).toArray] nx H fun v nx' H' => ∃ (m : Nat) (F : List Thg), v = .map (some m) ∧ H' m = some (.map (F.map fun t => (thV t, .agg #[])) (List.range F.length) F.length) ∧ F.Nodup ∧ (∀ t, t ∈ F ↔ ReachT a t) ∧ nx ≤ m ∧ m < nx' ∧ Ext nx H nx' H' := by
 obtain ⟨ai, ci, rfl⟩ := ha.init.slice;obtain ⟨af, cf, rfl⟩ := ha.final.slice;obtain ⟨ao, co, rfl⟩ := ha.opens.slice;obtain ⟨ac, cc, rfl⟩ := ha.closes.slice;obtain ⟨an, cn, rfl⟩ := ha.inners.slice;refine zm (fn := Tryz.f25) (c := _) Tryz.func25 rfl (fun tm n hn0 htm => ?_);have q0 : tm 0 = .agg (zz a (.slice ai a.init.length ci) (.slice af a.final.length cf) (.slice ao a.opens.length co) (.slice ac a.closes.length cc) (.slice an a.inners.length cn)).toArray := htm 0;clear htm;replace hn0 : n = 75 := hn0;refine Trip.ok fun hok => ?_;replace hok : ∀ id o, H id = some o → id < nx := hok;refine z5h ?_;refine OpsL.new zsd (z0a evr) ?_;have hx0 : Ext nx H (nx + 1) (H.put nx (.cells (Value.agg (zz a (.slice ai a.init.length ci) (.slice af a.final.length cf) (.slice ao a.opens.length co) (.slice ac a.closes.length cc) (.slice an a.inners.length cn)).toArray).cells.toList 0 none false (some 30))) := zj;have gx : (H.put nx (.cells (Value.agg (zz a (.slice ai a.init.length ci) (.slice af a.final.length cf) (.slice ao a.opens.length co) (.slice ac a.closes.length cc) (.slice an a.inners.length cn)).toArray).cells.toList 0 none false (some 30))) nx = some (.cells (zz a (.slice ai a.init.length ci) (.slice af a.final.length cf) (.slice ao a.opens.length co) (.slice ac a.closes.length cc) (.slice an a.inners.length cn)) 0 none false (some 30)) := zb;have ok0 := zF (o := .cells (Value.agg (zz a (.slice ai a.init.length ci) (.slice af a.final.length cf) (.slice ao a.opens.length co) (.slice ac a.closes.length cc) (.slice an a.inners.length cn)).toArray).cells.toList 0 none false (some 30)) hok;generalize H.put nx (.cells (Value.agg (zz a (.slice ai a.init.length ci) (.slice af a.final.length cf) (.slice ao a.opens.length co) (.slice ac a.closes.length cc) (.slice an a.inners.length cn)).toArray).cells.toList 0 none false (some 30)) = G at *;refine z9q ?_;refine OpsL.new zsd z2b ?_;have hx1 : Ext (nx + 1) G (nx + 1 + 1) (G.put (nx + 1) (.map [] [] 0)) := zj;have gm : (G.put (nx + 1) (.map [] [] 0)) (nx + 1) = some (.map [] [] 0) := zb;have ok1 := zF (o := .map [] [] 0) ok0;generalize G.put (nx + 1) (.map [] [] 0) = G1 at *;have gx1 := (hx1.2 nx zom).trans gx;have ha1 := ha.ext (hx0.trans hx1) hok
 repeat fail
 refine zd (zg (k := 7) (vs := zz a (.slice ai a.init.length ci) (.slice af a.final.length cf) (.slice ao a.opens.length co) (.slice ac a.closes.length cc) (.slice an a.inners.length cn)) evd zxr rfl zxr (zH gx1 rfl)) ?_;refine z0c (hf := z6h) (hc := (zfc W0 ha1 hn).ok) (h := ?_);rintro v1 n1 H1 ⟨⟨ob1, w1, x1, b1⟩, ok1'⟩;refine z0c (hf := z4R) (hc := (zaX W0 (w1.at z0X) (z3Y hn)).ok) (h := ?_);rintro v2 n2 H2 ⟨⟨W, rfl, hw, x2⟩, ok2⟩;have hle1 := x1.1;have hle2 := x2.1;have gm2 : H2 (nx + 1) = some (.map [] [] 0) := by rw [x2.2 _ zom, x1.2 _ zom]; exact gm
 have gx2 : H2 nx = some (.cells (zz a (.slice ai a.init.length ci) (.slice af a.final.length cf) (.slice ao a.opens.length co) (.slice ac a.closes.length cc) (.slice an a.inners.length cn)) 0 none false (some 30)) := by rw [x2.2 _ zom, x1.2 _ zom]; exact gx1
 have ha2 := ha1.ext (x1.trans x2) ok1;have hxH : Ext nx H n2 H2 := ((hx0.trans hx1).trans x1).trans x2;clear gx gx1 gm w1 b1 ha ha1 x1 x2 hx0 hx1 ok0 ok1 ok1';refine z9q ?_;refine zd (zC (v := thV (1, 0)) (l := [(0, .int .i64 1), (1, .int .i64 0)]) zep krf) ?_;refine OpsL.new zsd (zq (l := [(0, thV (1, 0))]) (r := (.slice (some ⟨n2, 0, none⟩) 1 1, .new (.cells (z1q (1, 0)) 2 none false (some 101)))) zeq krf) ?_;have x3 : Ext n2 H2 (n2 + 1) (H2.put n2 (.cells (z1q (1, 0)) 2 none false (some 101))) := zj;have gt : (H2.put n2 (.cells (z1q (1, 0)) 2 none false (some 101))) n2 = some (.cells (z1q (1, 0)) 2 none false (some 101)) := zb;have ok3 := zF (o := .cells (z1q (1, 0)) 2 none false (some 101)) ok2;generalize H2.put n2 (.cells (z1q (1, 0)) 2 none false (some 101)) = G3 at *;have gx3 := (x3.2 nx zom).trans gx2;have gm3 := (x3.2 (nx + 1) zom).trans gm2;have ha3 := ha2.ext x3 ok2;have hw3 := hw.ext x3;have ci0 : zh G3 ⟨nx, 0 + 2, none⟩ (.slice ai a.init.length ci) := by rw [Nat.zero_add]; exact ze gx3 rfl
 have hli := hn.init;clear gx2 gm2 hw ha2 ok2;refine zfB ?_;have hl0 : ¬ 0 < a.init.length := fun h => hi0 _ (List.getElem_mem h);refine Trip.mono (Q := fun e st => e = .exit 0 ∧ ∃ (tm' : Nat → Value), st = ⟨tm', n, G3, n2 + 1⟩ ∧ tm' 3 = .map (some (nx + 1)) ∧ tm' 4 = .map (some n1) ∧ tm' 5 = .slice (some ⟨n2, 0, none⟩) 1 1) ?_ ?_
 ·refine zu (fun (i : Nat) st => ∃ (tm' : Nat → Value), st = ⟨tm', n, G3, n2 + 1⟩ ∧ tm' 3 = .map (some (nx + 1)) ∧ tm' 4 = .map (some n1) ∧ tm' 5 = .slice (some ⟨n2, 0, none⟩) 1 1 ∧ tm' 22 = .int .i64 a.init.length ∧ tm' 23 = .int .i64 0) (fun _ => 0) 0 ?_ ?_
  ·exact ⟨_, rfl, stp, stp, stp, stp, stp⟩
  ·rintro i st ⟨tm, rfl, q3, q4, q5, q22, q23⟩;refine z4e ?_;exact ⟨rfl, _, rfl, stp, stp, stp⟩
 rintro e st ⟨rfl, tm', rfl, q3, q4, q5⟩;refine z4r ?_;have hc3 : G3 (nx + 1) = some (.map (([] : List Thg).map fun t => (thV t, .agg #[])) (List.range ([] : List Thg).length) ([] : List Thg).length) := gm3;have hle12 : nx + 1 + 1 ≤ n2 := by omega
 clear ci0 gx3
 repeat (first | refine Trip.seq ?_ | refine Trip.block ?_)
 refine zu (fun (p : Nat) st => ∃ (tm' : Nat → Value) (nx' : Nat) (H' : Heap), st = ⟨tm', n, H', nx'⟩ ∧ n2 + 1 ≤ nx' ∧ (∀ j, j < n2 + 1 → j ≠ nx + 1 → H' j = G3 j) ∧ (∀ id o, H' id = some o → id < nx') ∧ H' (nx + 1) = some (.map ((([((1, 0) : Thg)] : List Thg).take p).map fun t => (thV t, .agg #[])) (List.range (([((1, 0) : Thg)] : List Thg).take p).length) (([((1, 0) : Thg)] : List Thg).take p).length) ∧ tm' 3 = .map (some (nx + 1)) ∧ tm' 4 = .map (some n1) ∧ tm' 5 = .slice (some ⟨n2, 0, none⟩) (1 - p) 1 ∧ p ≤ 1) (fun p => 1 - p) 0 ?_ ?_
 ·exact ⟨_, _, _, rfl, Nat.le_refl _, fun _ _ _ => rfl, ok3, hc3, stp, stp, stp, Nat.zero_le _⟩
 ·clear q3 q4 q5 hc3 ok3 gm3;rintro p st ⟨tm, nx', H', rfl, hle, hFr, hok', hcell, q3, q4, q5, hp⟩;by_cases h0 : p = 0
  ·subst h0
   have hg : z0A H' ⟨n2, 0 + ((1 : Int) - 1).toNat * 2, none⟩ 2 = some (z1q (1, 0)) := by
    unfold z0A;simp only [(hFr n2 zom zom).trans gt];rfl
   have q5' : tm 5 = .slice (some ⟨n2, 0, none⟩) 1 1 := q5;clear q5;refine zgK ?_;refine OpsL.new zsd (zD (l := (rep 2 [.int .i64 0])) krf) ?_;refine OpsL.upd (zw (k := 2) (u := thV (1, 0)) evd evr zxr rfl (o := .cells (z1q (1, 0)) 0 none false (some 101)) (zE (vs := (z1q (1, 0))) zb rfl rfl)) ?_;obtain ⟨G5, hG5⟩ : ∃ G0, G0 = (H'.put nx' (.cells (rep 2 [.int .i64 0]) 0 none false (some 101))).put nx' (.cells (z1q (1, 0)) 0 none false (some 101)) := ⟨_, rfl⟩;have xG5 : Ext nx' H' (nx' + 1) G5 := ⟨Nat.le_succ _, fun j hj => by rw [hG5, za zom, za zom]⟩;have kG5 : ∀ id o, G5 id = some o → id < nx' + 1 := by rw [hG5]; exact zV (zF hok') zb
   have bG5 : G5 nx' = some (.cells (z1q (1, 0)) 0 none false (some 101)) := by rw [hG5, zb]
   rw [← hG5];clear hG5 hg;have g52 : G5 n2 = some (.cells (z1q (1, 0)) 2 none false (some 101)) := by rw [xG5.2 n2 zom, hFr n2 zom zom]; exact gt
   have hsl : z0E Tryz.prog G5 102 (.slice (some ⟨n2, 0, none⟩) 1 1) none (some (.int .i64 ((1 : Int) - 1))) none = some (.slice (some ⟨n2, 0, none⟩) 0 1) := by
    have := z5s (P := Tryz.prog) (H := G5) (t := 102) (el := 101) (sz := 2) (a := ⟨n2, 0, none⟩) (len := 1) (cap := 1) (l := 0) (h := 0) (lo := none) (hi := some (.int .i64 ((1 : Int) - 1))) zxr zxr g52 rfl rfl (.inl ⟨rfl, rfl⟩) (.inr ⟨.i64, rfl⟩) (Nat.le_refl _) (Nat.zero_le _)
    rwa [if_neg zom] at this
   repeat (first | (refine zd (by first | exact omv | exact z1D | exact zct) ?_) | refine Trip.seq ?_ | refine zk ?_ | (refine OpsL.nil ?_; (change Trip _ _ _ _ _)))
   refine zd (z06 (r := .slice (some ⟨n2, 0, none⟩) 0 1) (a := none) (b := some (.int .i64 ((1 : Int) - 1))) (c := none) evd rfl (by simp only [z2d, ASt.ev, zl, ↓reduceIte, reduceIte, Option.some.injEq, Nat.reduceEqDiff, Option.map_some, *] <;> rfl) rfl hsl) ?_;have hcell5 : G5 (nx + 1) = some (.map (([] : List Thg).map fun t => (thV t, .agg #[])) (List.range ([] : List Thg).length) ([] : List Thg).length) := (xG5.2 _ zom).trans hcell;have hF5 : FoundAt G5 (.map (some (nx + 1))) [] := ⟨nx + 1, _, _, rfl, hcell5⟩;refine z6v ?_;refine zd (zg (k := 2) (vs := z1q (1, 0)) evd zxr rfl zxr (zH bG5 rfl)) ?_;refine zd (z0k evd evr (hF5.told (1, 0))) ?_;refine zfz ?_;refine OpsL.new zsd (zD (l := []) krf) ?_;refine OpsL.upd (zw (k := 0) (u := .agg #[]) evd evr zxr rfl (o := .cells [] 0 none false (some 103)) (zE (vs := []) zb rfl rfl)) ?_;obtain ⟨G6, hG6⟩ : ∃ G0, G0 = (G5.put (nx' + 1) (.cells [] 0 none false (some 103))).put (nx' + 1) (.cells [] 0 none false (some 103)) := ⟨_, rfl⟩;have xG6 : Ext (nx' + 1) G5 ((nx' + 1) + 1) G6 := ⟨Nat.le_succ _, fun j hj => by rw [hG6, za zom, za zom]⟩;have kG6 : ∀ id o, G6 id = some o → id < (nx' + 1) + 1 := by rw [hG6]; exact zV (zF kG5) zb
   rw [← hG6];clear hG6;have hc6 := (xG6.2 (nx + 1) zom).trans hcell5;have hb6 := (xG6.2 nx' (Nat.lt_succ_self _)).trans bG5;have hF6 : ∀ j, j < n2 + 1 → j ≠ nx + 1 → G6 j = G3 j := fun j h1 h2 => by rw [xG6.2 _ zom, xG5.2 _ zom]; exact hFr j h1 h2
   simp only [List.not_mem_nil, decide_false];refine z6v ?_;refine z0h ?_;refine zdV ?_;refine zd (zg (k := 2) (vs := z1q (1, 0)) evd zxr rfl zxr (zH hb6 rfl)) ?_;refine zd (zC (v := .agg #[]) (l := []) (by simp only [z0i]) krf) ?_;have hupd : zP Tryz.prog G6 53 (.map (some (nx + 1))) (thV (1, 0)) (.agg #[]) = some (.upd (nx + 1) (.map (([((1, 0) : Thg)] : List Thg).map fun t => (thV t, .agg #[])) (List.range 1) 1)) := FoundAt.put hc6 (by simp);refine OpsL.upd (z10 evd evr evd hupd) ?_;obtain ⟨G7, hG7⟩ : ∃ G0, G0 = G6.put (nx + 1) (.map (([((1, 0) : Thg)] : List Thg).map fun t => (thV t, .agg #[])) (List.range 1) 1) := ⟨_, rfl⟩;have hc7 : G7 (nx + 1) = some (.map (([((1, 0) : Thg)] : List Thg).map fun t => (thV t, .agg #[])) (List.range 1) 1) := by rw [hG7, zb]
   have ok7 : ∀ id o, G7 id = some o → id < nx' + 1 + 1 := by rw [hG7]; exact zV kG6 hc6
   have hF7 : ∀ j, j < n2 + 1 → j ≠ nx + 1 → G7 j = G3 j := fun j h1 h2 => by rw [hG7, za h2]; exact hF6 j h1 h2
   have hb7 : G7 nx' = some (.cells (z1q (1, 0)) 0 none false (some 101)) := by rw [hG7, za zom]; exact hb6
   rw [← hG7];clear hG7 hupd hc6 hb6 hF6 kG6 xG6 xG5 kG5 bG5 g52 hsl hcell5 hF5;obtain ⟨r, htell⟩ := hw3.tells (1, 0);have hwf : WaitIn G7 n1 n1 (nx' + 1 + 1) (z4v (z0b a)) W := hw3.framed (fun j h3 h4 => hF7 j h4 zom) zom;have hw0 : z4v (z0b a) (1, 0) = [] := List.eq_nil_iff_forall_not_mem.2 fun m hm => hm0 m (List.mem_filter.1 hm).1;refine zaE ?_;refine zd (zg (k := 2) (vs := z1q (1, 0)) evd zxr rfl zxr (zH hb7 rfl)) ?_;refine zd (z0k evd evr (htell G7 _ hwf).1) ?_;have hrr := (htell G7 _ hwf).2;rw [hw0] at hrr;obtain ⟨ra, rc, rfl⟩ := hrr.slice
   repeat (first | (refine zd (by first | exact omv | exact z1D) ?_) | refine Trip.block ?_ | (refine OpsL.nil ?_; (change Trip _ _ _ _ _)))
   refine Trip.mono (Q := fun e st => e = .exit 4 ∧ ∃ (tm' : Nat → Value), st = ⟨tm', n, G7, nx' + 1 + 1⟩ ∧ tm' 3 = .map (some (nx + 1)) ∧ tm' 4 = .map (some n1) ∧ tm' 5 = .slice (some ⟨n2, 0, none⟩) 0 1) ?_ ?_
   ·refine zu (fun (i : Nat) st => ∃ (tm' : Nat → Value), st = ⟨tm', n, G7, nx' + 1 + 1⟩ ∧ tm' 3 = .map (some (nx + 1)) ∧ tm' 4 = .map (some n1) ∧ tm' 5 = .slice (some ⟨n2, 0, none⟩) 0 1 ∧ tm' 60 = .int .i64 0 ∧ tm' 61 = .int .i64 0) (fun _ => 0) 0 ?_ ?_
    ·exact ⟨_, rfl, stp, stp, stp, stp, stp⟩
    ·clear q3 q4 q5';rintro i st ⟨tm', rfl, q3, q4, q5, q60, q61⟩;refine z4e ?_;exact ⟨rfl, _, rfl, stp, stp, stp⟩
   clear q3 q4 q5';rintro e st ⟨rfl, tm', rfl, q3, q4, q5⟩;refine zcw ?_
   repeat fail
   exact ⟨1, ⟨_, _, _, rfl, zom, hF7, ok7, hc7, stp, stp, stp, Nat.le_refl _⟩, zom⟩
  ·have h1 : p = 1 := by omega
   subst h1;have q5' : tm 5 = .slice (some ⟨n2, 0, none⟩) 0 1 := q5;clear q5;refine z4s ?_;refine z1L ?_;refine z8e ?_;refine z9w ?_;refine ⟨.inr rfl, _, zy, nx + 1, [(1, 0)], stp, hcell, by simp, z9V hi0 hm0, zom, zom, by have := hxH.1; omega, fun j hj => ?_⟩;rw [hFr j zom zom, x3.2 j zom, hxH.2 j hj]
def zaU (a : Aut) : Prop := (a.init ≠ [] ∧ muF a [] (z5U a) ≤ 100000) ∨ ((∀ s, ¬ s ∈ a.init) ∧ ∀ m, ¬ m ∈ z0b a)
theorem zhq (W0 : World) {nx : Nat} {H : Heap} {a : Aut} {vi vf vo vc vn : Value} (ha : AutIn H a vi vf vo vc vn) (hn : AutLen a) (hf : zaU a) :
  ACalls Tryz.prog W0 25 [.agg (zz a vi vf vo vc vn).toArray] nx H fun v nx' H' => ∃ (m : Nat) (F : List Thg), v = .map (some m) ∧ H' m = some (.map (F.map fun t => (thV t, .agg #[])) (List.range F.length) F.length) ∧ F.Nodup ∧ (∀ t, t ∈ F ↔ ReachT a t) ∧ nx ≤ m ∧ m < nx' ∧ Ext nx H nx' H' := by
 rcases hf with ⟨h0, h1⟩ | ⟨h0, h1⟩
 ·exact zis W0 ha hn h0 h1
 ·exact zhp W0 ha hn h0 h1
end Go.Proofs.YteplpegfcpmflaaGreat
namespace Go.Am
open Go.Shelf Go.RowKit Go.Lib
open Go.Sort hiding Below
variable {P : Program} {W0 : World}
theorem zb9 (l : List Int) : ∀ v ∈ l.map (Value.int .i64), IntV v := fun v hv => by
 obtain ⟨x, _, rfl⟩ := List.mem_map.1 hv;exact ⟨_, _, rfl⟩
theorem ze8 {f : FuncId} {el : TypeId}
  (hs : ∀ (blk off cap : Nat) (zs : List Int) (w : World), Holds (Value.int .i64) w blk off zs.toArray → blk < w.heap.size → zs.length < 4611686018427387904 → Calls P f #[.slice (some ⟨blk, off, none⟩) zs.length cap] w fun e w' => e = .returned (.tuple #[]) ∧ ∃ n os, w' = grow (putRow (Value.int .i64) (Sort.ahead w n) blk off (zs.mergeSort fun x y => decide (x ≤ y)).toArray) os)
  (h0 : ∀ (cap : Nat) (w : World), Calls P f #[.slice none 0 cap] w fun e w' => e = .returned (.tuple #[]) ∧ w' = w) : zcJ P W0 f el := by
 intro nx H ob v l hown hl C w args' hR ha;obtain ⟨h1, h2⟩ := ha
 obtain ⟨v1, rfl⟩ : ∃ v1, args' = [v1] := by
  match args', h1 with
  | [v1], _ => exact ⟨v1, rfl⟩
 have hv1 := h2 0 (by simp) (by simp);simp only [List.getElem_cons_zero] at hv1;cases ob with
 | none =>
  obtain ⟨rfl, hnil, _⟩ := hown;have hl0 : l = [] := by simpa using hnil
  subst hl0
  obtain ⟨cap', rfl⟩ : ∃ cap', v1 = .slice none 0 cap' := by
   cases hv1
   all_goals exact ⟨_, rfl⟩
  refine (h0 cap' w).mono ?_;rintro e' w' ⟨rfl, rfl⟩;exact ⟨_, _, C, nx, H, rfl, ⟨rfl, rfl, ⟨rfl, by simp [z4Y], by simp [z4Y]⟩, fun _ _ => rfl⟩, hR, .tuple _ _ rfl (fun i h => absurd h (by simp)), Stp.refl _ _ _⟩
 | some bt =>
  obtain ⟨b, t⟩ := bt;obtain ⟨rfl, hlen, rest, ho⟩ := hown
  obtain ⟨cap', rfl⟩ : ∃ cap', v1 = .slice (some ⟨(C.loc b).1, (C.loc b).2, none⟩) l.length cap' := by
   cases hv1 with
   | slc _ _ _ b' cap' k1 k2 =>
    obtain ⟨e1, _⟩ := k2 _ ho rfl;exact ⟨cap', by rw [e1]; simp [Corr.at]⟩
  have hH : Holds (Value.int .i64) w (C.loc b).1 (C.loc b).2 l.toArray := z8J (z66 hR ho (zb9 l));refine (hs (C.loc b).1 (C.loc b).2 cap' l w hH (hR.obj _ _ ho).blk zom).mono ?_;rintro e' w' ⟨rfl, n, os, rfl⟩;have hsize : (z4Y l).length = l.length := (z3V l).length_eq;have hput := z9I hR ho (cs' := (z4Y l).map (Value.int .i64)) (by simp [hsize]) (zb9 _) n os;rw [show (l.mergeSort fun x y => decide (x ≤ y)) = z4Y l from rfl, z6U];refine ⟨_, _, C, nx, _, rfl, ⟨rfl, rfl, ⟨by rw [hsize], by simp [hsize], rest, zb⟩, fun k hk => za (hk b t rfl)⟩, hput.1, .tuple _ _ rfl (fun i h => absurd h (by simp)), hput.2⟩
end Go.Am
namespace Go.Proofs.YteplpegfcpmflaaGreat
open Go.Shelf Go.RowKit Go.Lib Go.Am
open Go.Sort hiding Below
shelf_lay Lays.n189 Nm 189 at Tryz as sortI189
theorem z8x (W0 : World) : zcJ Tryz.prog W0 62 3 :=
 ze8 (fun blk off cap zs w hH hb hl => Any.slices_Sort_int sortI189 blk off cap zs w hH hb hl) (fun cap w => Any.slices_Sort_int_none sortI189 none cap w)
end Go.Proofs.YteplpegfcpmflaaGreat

import Derived.Shelf.Lay
import Derived.Shelf.Sort.Plain
import Derived.Shelf.Slices.In.SortNone
import Derived.Ground.NamesProg
import Derived.Test.YteplpegfcpmflaaGreatQTM10
set_option linter.unusedSimpArgs false
set_option linter.unusedVariables false
set_option maxRecDepth 100000
set_option maxHeartbeats 64000000
namespace Go.Am
open Go.RowKit
theorem zaV : ∀ (k : Nat) (l : List Nat), l.Nodup → (∀ i ∈ l, i < k) → l.length ≤ k := by
 intro k
 induction k with
 | zero =>
  intro l _ h;cases l with
  | nil => simp
  | cons x l => have := h x (by simp); omega
 | succ k ih =>
  intro l hn h
  have h1 := ih (l.erase k) (hn.erase k) (fun i hi => by
   have h2 := h i (List.mem_of_mem_erase hi);have h3 : i ≠ k := fun e => by subst e; exact hn.not_mem_erase hi
   omega)
  have := List.length_erase (a := k) (l := l);split at this <;> omega
def z4S (l : List Int) : List Int := l.mergeSort fun x y => decide (x ≤ y)
theorem z3Y (l : List Int) : (z4S l).Perm l := List.mergeSort_perm _ _
theorem zdT {l : List Int} (h : l.Nodup) : (z4S l).Pairwise (· < ·) := by
 have h1 : (z4S l).Pairwise (fun x y => decide (x ≤ y) = true) := List.pairwise_mergeSort (fun a b c h1 h2 => by simp at *; omega) (fun a b => by simp; omega) l;have h2 : (z4S l).Nodup := (z3Y l).nodup_iff.2 h;exact (h1.and h2).imp (fun {x y} h => by obtain ⟨h3, h4⟩ := h; simp at h3; omega)
def zcB (P : Program) (W0 : World) (f : FuncId) (el : TypeId) : Prop := ∀ (nx : Nat) (H : Heap) (ob : Option (Nat × Nat)) (v : Value) (l : List Int), OwnInts H ob el v l → l.length < 1000000000000 → ACalls P W0 f [v] nx H fun r nx' H' => r = .tuple #[] ∧ nx' = nx ∧ OwnInts H' ob el v (z4S l) ∧ ∀ k, (∀ b t, ob = some (b, t) → k ≠ b) → H' k = H k
structure Picked (F : List Thg) (kind : Int) (seen : List Nat) (xs : List Int) : Prop where
 nodup : xs.Nodup
 sn : seen.Nodup
 lt : ∀ i ∈ seen, i < F.length
 told : ∀ x, x ∈ xs ↔ ∃ i ∈ seen, F[i]? = some (kind, x)
 len : xs.length ≤ seen.length
theorem Picked.nil {F : List Thg} {kind : Int} : Picked F kind [] [] := ⟨List.nodup_nil, List.nodup_nil, by simp, by simp, by simp⟩
theorem z4p {F : List Thg} {kind : Int} {seen : List Nat} {i : Nat} (h : seen.Nodup) (hl : ∀ j ∈ seen, j < F.length) (hi : i < F.length) (hs : i ∉ seen) : (seen ++ [i]).Nodup ∧ ∀ j ∈ seen ++ [i], j < F.length := by
 refine ⟨?_, fun j hj => ?_⟩
 ·rw [List.nodup_append]
  exact ⟨h, by simp, fun a ha b hb => by rw [List.mem_singleton] at hb; subst hb; exact fun e => hs (e ▸ ha)⟩
 ·rcases List.mem_append.1 hj with h | h
  ·exact hl j h
  ·rw [List.mem_singleton] at h; omega
theorem Picked.old {F : List Thg} {kind : Int} {seen : List Nat} {xs : List Int} {i : Nat} {t : Thg} (h : Picked F kind seen xs) (hi : i < F.length) (hs : i ∉ seen) (ht : F[i]? = some t) (hk : ¬ t.1 = kind) : Picked F kind (seen ++ [i]) xs := by
 obtain ⟨h1, h2⟩ := z4p (kind := kind) h.sn h.lt hi hs;refine ⟨h.nodup, h1, h2, fun x => ?_, by rw [List.length_append]; have := h.len; omega⟩;rw [h.told x];constructor
 ·rintro ⟨j, hj, he⟩; exact ⟨j, by simp [hj], he⟩
 ·rintro ⟨j, hj, he⟩
  rcases List.mem_append.1 hj with hj | hj
  ·exact ⟨j, hj, he⟩
  ·rw [List.mem_singleton] at hj; subst hj; rw [ht] at he; cases he; exact absurd rfl hk
theorem Picked.new {F : List Thg} {kind : Int} {seen : List Nat} {xs : List Int} {i : Nat} {t : Thg} (h : Picked F kind seen xs) (hF : F.Nodup) (hi : i < F.length) (hs : i ∉ seen) (ht : F[i]? = some t) (hk : t.1 = kind) : Picked F kind (seen ++ [i]) (xs ++ [t.2]) := by
 obtain ⟨h1, h2⟩ := z4p (kind := kind) h.sn h.lt hi hs;have hte : t = (kind, t.2) := by rw [← hk]
 have hnew : t.2 ∉ xs := fun hm => by
  obtain ⟨j, hj, he⟩ := (h.told _).1 hm;rw [← hte] at he;have := (List.getElem?_inj (h.lt j hj) hF).1 (he.trans ht.symm);subst this;exact hs hj
 refine ⟨?_, h1, h2, fun x => ?_, by rw [List.length_append, List.length_append]; have := h.len; simp; omega⟩
 ·rw [List.nodup_append]
  exact ⟨h.nodup, by simp, fun a ha b hb => by rw [List.mem_singleton] at hb; subst hb; exact fun e => hnew (e ▸ ha)⟩
 ·rw [List.mem_append, h.told x, List.mem_singleton]
  constructor
  ·rintro (⟨j, hj, he⟩ | rfl)
   ·exact ⟨j, by simp [hj], he⟩
   ·exact ⟨i, by simp, by rw [ht, ← hte]⟩
  ·rintro ⟨j, hj, he⟩
   rcases List.mem_append.1 hj with hj | hj
   ·exact .inl ⟨j, hj, he⟩
   ·rw [List.mem_singleton] at hj; subst hj; rw [ht] at he; cases he; exact .inr rfl
theorem Picked.all {F : List Thg} {kind : Int} {seen : List Nat} {xs : List Int} (h : Picked F kind seen xs) (hall : ∀ i, i < F.length → i ∈ seen) : xs.Nodup ∧ ∀ x, x ∈ xs ↔ (kind, x) ∈ F := by
 refine ⟨h.nodup, fun x => ?_⟩;rw [h.told x];constructor
 ·rintro ⟨j, _, he⟩; exact List.mem_of_getElem? he
 ·intro hm
  obtain ⟨j, hj, he⟩ := List.mem_iff_getElem.1 hm;exact ⟨j, hall j hj, by rw [List.getElem?_eq_getElem hj, he]⟩
end Go.Am
namespace Go.Proofs.YteplpegfcpmflaaGreat
open Go.RowKit Go.Am
attribute [local irreducible] aop OpsL Trip zC z36 OpsK OpsR
theorem z4O : Am.z0F Tryz.prog 26 := ⟨Tryz.f26, Tryz.func26, by kernel_rfl, by kernel_rfl⟩
theorem z97 : Am.z0F Tryz.prog 62 := ⟨Tryz.f62, Tryz.func62, by kernel_rfl, by kernel_rfl⟩
theorem zfw (H : Heap) (x y : Int) : aEq Tryz.prog H 60 3 (.int .i64 x) (.int .i64 y) = some (decide (x = y)) := by
 have key : aEq Tryz.prog H 60 3 (.int .i64 x) (.int .i64 y) = some (x == y) := by
  cases h : (x == y) <;> simp [aEq, h, Tryz.underlying3]
 rw [key];congr 1
theorem zbI (H : Heap) (k : Int) : ∀ (l : List (Value × Value)) (i : Nat), (∀ e ∈ l, ∃ y : Int, e.1 = .int .i64 y ∧ k ≠ y) → z11 Tryz.prog H 3 (.int .i64 k) l i = some none := by
 intro l
 induction l with
 | nil => intro i _; rfl
 | cons e l ih =>
  intro i h;obtain ⟨⟨y, hy, hne⟩, h2⟩ := List.forall_mem_cons.1 h;obtain ⟨a, b⟩ := e;dsimp only at hy;subst hy;simp only [z11, zfw, decide_eq_false hne];exact ih (i + 1) h2
theorem z9G (k : Int) (H : Heap) : z0Q Tryz.prog 60 3 (.int .i64 k) = true ∧ z8k H (.int .i64 k) = true := ⟨by kernel_rfl, by kernel_rfl⟩
def z9s (L : List Int) (i : Nat) : List (Value × Value) := (List.range i).map fun j => (.int .i64 (L.getD j 0), .int .i64 (j : Int))
theorem zd7 (L : List Int) (i : Nat) : z9s L (i + 1) = z9s L i ++ [(.int .i64 (L.getD i 0), .int .i64 (i : Int))] := by
 unfold z9s;rw [List.range_succ, List.map_append];rfl
theorem ze6 (L : List Int) (i : Nat) : (z9s L i).length = i := by simp [z9s]
theorem ze5 {H : Heap} {m i : Nat} {L : List Int} (hm : H m = some (.map (z9s L i) (List.range i) i)) (hL : L.Pairwise (· < ·)) (hi : i < L.length) :
  zG Tryz.prog H 55 (.map (some m)) (.int .i64 L[i]) (.int .i64 (i : Int)) = some (.upd m (.map (z9s L (i + 1)) (List.range (i + 1)) (i + 1))) := by
 obtain ⟨c1, c2⟩ := z9G L[i] H
 have hno := zbI H L[i] (z9s L i) 0 (fun e he => by
  obtain ⟨j, hj, rfl⟩ := List.mem_map.1 he;have hj' : j < i := by simpa using hj
  refine ⟨_, rfl, ?_⟩;have := List.pairwise_iff_getElem.1 hL j i (by omega) hi hj';rw [List.getD_eq_getElem?_getD, List.getElem?_eq_getElem (by omega), Option.getD_some];omega)
 unfold zG;simp only [Tryz.underlying55, hm, c1, c2, show (Tryz.prog.underlying 3).isSome = true from rfl, and_self, if_true, hno];rw [zd7, List.range_succ, List.getD_eq_getElem?_getD, List.getElem?_eq_getElem hi, Option.getD_some]
theorem zaS (W0 : World) (hsort : zcB Tryz.prog W0 62 3) {nx m : Nat} {H : Heap} {F : List Thg} {kind : Int} (hF : F.Nodup) (hl : F.length ≤ 1000000) (hm : H m = (some (.map (F.map fun t => (thV t, .agg #[])) (List.range F.length) F.length))) :
  ACalls Tryz.prog W0 26 [.map (some m), .int .i64 kind] nx H fun v nx' H' => ∃ (m2 : Nat) (L : List Int), v = .map (some m2) ∧ H' m2 = some (.map (z9s L L.length) (List.range L.length) L.length) ∧ L.Pairwise (· < ·) ∧ (∀ x, x ∈ L ↔ (kind, x) ∈ F) ∧ nx ≤ m2 ∧ m2 < nx' ∧ Ext nx H nx' H' := by
 refine ze (fn := Tryz.f26) (c := _) Tryz.func26 rfl (fun tm n hn0 htm => ?_);have q0 : tm 0 = .map (some m) := htm 0;have q1 : tm 1 = .int .i64 kind := htm 1;clear htm;replace hn0 : n = 40 := hn0;refine Trip.ok fun hok => ?_;replace hok : ∀ id o, H id = some o → id < nx := hok;have hmn : m < nx := hok _ _ hm;refine z4Q ?_;refine OpsL.new (by subst_vars; decide) (zbZ evd (by exact rfl) hm) ?_;have ok1 := zB (o := .miter (some m) F.length [] F.length) hok;have hx1 : Ext nx H (nx + 1) (H.put nx (.miter (some m) F.length [] F.length)) := zg;have hi1 : (H.put nx (.miter (some m) F.length [] F.length)) nx = some (.miter (some m) F.length [] F.length) := z6;generalize H.put nx (.miter (some m) F.length [] F.length) = H1 at *
 repeat (first | refine Trip.block ?_ | (refine OpsL.nil ?_; (change Trip _ _ _ _ _)))
 refine zu (fun (seen : List Nat) st => ∃ (tm' : Nat → Value) (nx' : Nat) (H' : Heap) (ob : Option (Nat × Nat)) (v : Value) (xs : List Int), st = ⟨tm', n, H', nx'⟩ ∧ Ext nx H nx' H' ∧ nx + 1 ≤ nx' ∧ H' nx = some (.miter (some m) F.length seen F.length) ∧ OwnInts H' ob 3 v xs ∧ (∀ b t, ob = some (b, t) → nx + 1 ≤ b ∧ b < nx') ∧ Picked F kind seen xs ∧ tm' 1 = .int .i64 kind ∧ tm' 5 = v ∧ tm' 11 = .pointer (some ⟨nx, 0, none⟩)) (fun seen => F.length - seen.length) [] ?_ ?_
 ·exact ⟨_, _, _, none, _, [], rfl, hx1, by omega, hi1, ⟨rfl, rfl, rfl⟩, fun _ _ h => (by cases h), Picked.nil, stp, stp, stp⟩
 ·clear q0 q1 hi1 ok1 hx1
  rintro seen st ⟨tm, nx', H', ob, v, xs, rfl, hext, hle, hit, hown, hob, hP, q1, q5, q11⟩;refine Trip.ok fun hok' => ?_;replace hok' : ∀ id o, H' id = some o → id < nx' := hok';have hm' : H' m = (some (.map (F.map fun t => (thV t, .agg #[])) (List.range F.length) F.length)) := (hext.2 m hmn).trans hm;obtain ⟨rs, hn, hcs⟩ := zby hit hm' (by simp);refine Trip.seq ?_;refine zc6 rfl (by subst_vars; decide) evd hn ?_;intro x hx;rcases hcs x hx with ⟨rfl, hall⟩ | ⟨i, key, val, hik, his, he, rfl⟩
  ·clear hcs hx hn
   obtain ⟨hnd, hmem⟩ := hP.all hall;have hxl : xs.length ≤ F.length := by have := hP.len; have := zaV _ _ hP.sn hP.lt; omega
   have hLs := zdT hnd;have hLl : (z4S xs).length ≤ 1000000 := by rw [(z3Y xs).length_eq]; omega
   have hLm : ∀ x, x ∈ z4S xs ↔ (kind, x) ∈ F := fun x => ((z3Y xs).mem_iff).trans (hmem x);change OpsL _ _ _ _ ⟨z9 tm (some 12) (.tuple #[.bool false]), n, H', nx'⟩ _;refine z7 (v := .bool false) (zO evr (by exact rfl)) ?_;refine zfY ?_;refine zU ?_;refine zdJ ?_;refine z0g (hf := z97) (hc := (hsort nx' H' ob v xs hown (by omega))) (h := ?_);rintro r nx2 H2 ⟨rfl, rfl, hown2, hsame⟩
   have ok2 : ∀ id o, H2 id = some o → id < nx2 := fun id o h => by
    by_cases hb : ∃ t, ob = some (id, t)
    ·obtain ⟨t, hb⟩ := hb; exact (hob _ _ hb).2
    ·rw [hsame id (fun b t h e => hb ⟨t, by rw [h, e]⟩)] at h; exact hok' _ _ h
   generalize z4S xs = L at *;refine zdz ?_;refine OpsL.new (by subst_vars; decide) z25 ?_;have gm : (H2.put nx2 (.map [] [] 0)) nx2 = some (.map [] [] 0) := z6;have hG : ∀ j, j ≠ nx2 → (H2.put nx2 (.map [] [] 0)) j = H2 j := fun j hj => z5 hj;generalize H2.put nx2 (.map [] [] 0) = G at *;have hownG : ∀ HH : Heap, (∀ j, j ≠ nx2 → HH j = H2 j) → OwnInts HH ob 3 v L := fun HH h => OwnRow.same (fun b t hb => h b (by have := hob b t hb; omega)) hown2;obtain ⟨va, vc, rfl⟩ := (hownG G hG).at.slice;refine z8d ?_;refine zu (fun (i : Nat) st => ∃ (tm' : Nat → Value) (H' : Heap), st = ⟨tm', n, H', nx2 + 1⟩ ∧ (∀ j, j ≠ nx2 → H' j = H2 j) ∧ H' nx2 = some (.map (z9s L i) (List.range i) i) ∧ tm' 7 = .map (some nx2) ∧ tm' 28 = .slice va L.length vc ∧ tm' 29 = .int .i64 L.length ∧ tm' 30 = .int .i64 i ∧ i ≤ L.length) (fun i => L.length - i) 0 ?_ ?_
   ·exact ⟨_, _, rfl, hG, gm, stp, stp, stp, stp, Nat.zero_le _⟩
   ·clear q1 q5 q11 gm hG
    rintro i st ⟨tm, H5, rfl, hfr, hmp, q7, q28, q29, q30, hi⟩;by_cases hlt : i < L.length
    ·obtain ⟨p, rfl, hc⟩ := (hownG H5 hfr).at.get hlt
     have hput := ze5 hmp hLs hlt;replace hc : zb H5 ⟨p.block, p.off + (i : Int).toNat * 1, p.spot⟩ (.int .i64 L[i]) := by simpa using hc
     generalize L[i] = y at *;refine zeD ?_;refine OpsL.upd (z0V evd evd evd hput) ?_;refine zeC ?_;exact ⟨i + 1, ⟨_, _, rfl, fun j hj => by rw [z5 hj]; exact hfr j hj, z6, stp, stp, stp, stp, by omega⟩, by omega⟩
    ·obtain rfl : i = L.length := by omega
     refine zg8 ?_;refine z9w ?_;refine ⟨.inr rfl, _, zh, nx2, L, stp, hmp, hLs, hLm, by omega, by omega, by omega, fun j hj => ?_⟩;rw [hfr j (by omega), hsame j (fun b t hb => by have := hob b t hb; omega), hext.2 j hj]
  ·clear hcs hx hn
   obtain ⟨t, ht, hkv⟩ : ∃ t, F[i]? = some t ∧ (thV t, Value.agg #[]) = (key, val) := by
    rw [List.getElem?_map] at he;cases hF : F[i]? with
    | none => rw [hF] at he; cases he
    | some t => rw [hF] at he; exact ⟨t, rfl, by simpa using he⟩
   cases hkv;obtain ⟨hn2, hl2⟩ := z4p (kind := kind) hP.sn hP.lt hik his;have hsl := zaV _ _ hn2 hl2;rw [List.length_append, List.length_singleton] at hsl;have hxl := hP.len;change OpsL _ _ _ _ ⟨z9 tm (some 12) (.tuple #[.bool true, thV t, .agg #[]]), n, H'.put nx (.miter (some m) F.length (seen ++ [i]) F.length), nx'⟩ _;have hH2 : ∀ j, j ≠ nx → (H'.put nx (.miter (some m) F.length (seen ++ [i]) F.length)) j = H' j := fun j hj => z5 hj;have hit2 : (H'.put nx (.miter (some m) F.length (seen ++ [i]) F.length)) nx = some (.miter (some m) F.length (seen ++ [i]) F.length) := z6;have ok2 := zL (o := .miter (some m) F.length (seen ++ [i]) F.length) hok' hit;generalize H'.put nx (.miter (some m) F.length (seen ++ [i]) F.length) = H2 at *;refine z7 (v := .bool true) (zO evr (by exact rfl)) ?_;refine zfY ?_;refine z05 ?_;refine zfq ?_;refine z7 (zdn evd (zbM hit2 ((hH2 m (by omega)).trans hm') hik (he : (F.map fun t => (thV t, Value.agg #[]))[i]? = _))) ?_;refine z7 (v := thV t) (zO evr (by exact rfl)) ?_;refine OpsL.new (by subst_vars; decide) (zw (l := (rep 2 [.int .i64 0])) krf) ?_;refine OpsL.upd (zp (k := 2) (u := thV t) evd evd (by exact rfl) rfl (o := .cells (z1m t) 0 none false (some 101)) (zz (vs := (z1m t)) z6 rfl rfl)) ?_;obtain ⟨G5, hG5⟩ : ∃ G0, G0 = (H2.put nx' (.cells (rep 2 [.int .i64 0]) 0 none false (some 101))).put nx' (.cells (z1m t) 0 none false (some 101)) := ⟨_, rfl⟩;have xG5 : Ext nx' H2 (nx' + 1) G5 := ⟨Nat.le_succ _, fun j hj => by rw [hG5, z5 (by omega), z5 (by omega)]⟩;have kG5 : ∀ id o, G5 id = some o → id < nx' + 1 := by rw [hG5]; exact zL (zB ok2) z6
   have bG5 : G5 nx' = some (.cells (z1m t) 0 none false (some 101)) := by rw [hG5, z6]
   first | rw [← hG5] | skip
   clear hG5;have c0 : zb G5 ⟨nx', 0, none⟩ (.int .i64 t.1) := by exact z8 bG5 rfl
   have c1 : zb G5 ⟨nx', 0 + 1, none⟩ (.int .i64 t.2) := by rw [Nat.zero_add]; exact z8 bG5 rfl
   have hit5 := (xG5.2 nx (by omega)).trans hit2;have hown5 : OwnInts G5 ob 3 v xs := OwnRow.same (fun b t hb => by rw [xG5.2 b (hob b t hb).2, hH2 b (by have := hob b t hb; omega)]) hown;have hext5 : Ext nx H (nx' + 1) G5 := ⟨by omega, fun j hj => by rw [xG5.2 j (by omega), hH2 j (by omega), hext.2 j hj]⟩
   repeat (first | (refine z7 (by first | exact omv | exact zeM | exact ofa | exact old) ?_) | refine Trip.seq ?_ | refine zd ?_ | refine z0t (fun _ => ?_) (fun _ => ?_) | (refine OpsL.nil ?_; (change Trip _ _ _ _ _)))
   ·rename_i hk
    refine z1u (by subst_vars; decide) (by subst_vars; decide) evr (by decide) (by (simp only [z9, ↓reduceIte, reduceIte, Option.some.injEq, Nat.reduceEqDiff, *])) hown5 (fun b t hb => Nat.lt_succ_of_lt (hob b t hb).2) (by exact rfl) (by exact rfl) (by exact rfl) (by exact rfl) (by omega) ?_;rintro v6 ob6 H6 hown6 ⟨b6, rfl, hb6⟩ hs6
    have hbb : nx + 1 ≤ b6 ∧ b6 < nx' + 1 + 1 + 1 := by
     rcases hb6 with rfl | ⟨t6, hb6⟩
     ·exact ⟨by omega, by omega⟩
     ·have := hob _ _ hb6; exact ⟨by omega, by omega⟩
    have hit6 := (hs6 nx (by omega) (fun b t hb => by have := (hob b t hb).1; omega)).trans hit5;have hext6 : Ext nx H (nx' + 1 + 1 + 1) H6 := ⟨by omega, fun j hj => by rw [hs6 j (by omega) (fun b t hb => by have := (hob b t hb).1; omega)]; exact hext5.2 j hj⟩;have hP6 := hP.new hF hik his ht hk
    repeat (first | refine z7 (by exact z0x) ?_ | (refine OpsL.nil ?_; ((repeat (refine zK ?_)); dsimp only)))
    refine ⟨seen ++ [i], ⟨_, _, _, some (b6, nx' + 1 + 1), v6, _, rfl, hext6, by omega, hit6, hown6, fun b' t' h => by cases h; exact hbb, hP6, stp, stp, stp⟩, by show F.length - (seen ++ [i]).length < F.length - seen.length; rw [List.length_append, List.length_singleton]; omega⟩
   ·rename_i hk
    have hP6 := hP.old hik his ht hk
    repeat (first | (refine Trip.skip ?_; ((repeat (refine zK ?_)); dsimp only)))
    exact ⟨seen ++ [i], ⟨_, _, _, ob, v, xs, rfl, hext5, by omega, hit5, hown5, fun b' t' h => by have := hob _ _ h; omega, hP6, stp, stp, stp⟩, by show F.length - (seen ++ [i]).length < F.length - seen.length; rw [List.length_append, List.length_singleton]; omega⟩
end Go.Proofs.YteplpegfcpmflaaGreat
namespace Go.Proofs.YteplpegfcpmflaaGreat
open Go.RowKit Go.Am
attribute [local irreducible] aop OpsL Trip zC z36 OpsK OpsR
def z6v : List Int → Int → Nat → Option Nat
 | [], _, _ => none
 | y :: l, k, i => if k = y then some i else z6v l k (i + 1)
def zdK : List Int → Nat → List (Value × Value)
 | [], _ => []
 | y :: l, i => (.int .i64 y, .int .i64 (i : Int)) :: zdK l (i + 1)
theorem ze7 : ∀ (l : List Int) (i j : Nat), (zdK l i)[j]? = (l[j]?).map fun y => ((.int .i64 y, .int .i64 ((i + j : Nat) : Int)) : Value × Value) := by
 intro l
 induction l with
 | nil => intro i j; simp [zdK]
 | cons y l ih =>
  intro i j;cases j with
  | zero => simp [zdK]
  | succ j =>
   simp only [zdK, List.getElem?_cons_succ, ih, show i + 1 + j = i + (j + 1) by omega]
theorem zcL (L : List Int) : z9s L L.length = zdK L 0 := by
 apply List.ext_getElem?;intro j;rw [ze7];unfold z9s;rw [List.getElem?_map];by_cases h : j < L.length
 ·rw [List.getElem?_eq_getElem (by simpa using h), List.getElem_range, List.getElem?_eq_getElem h]
  simp only [Option.map_some, List.getD_eq_getElem?_getD, List.getElem?_eq_getElem h, Option.getD_some, Nat.zero_add]
 ·rw [List.getElem?_eq_none (by simpa using Nat.le_of_not_lt h), List.getElem?_eq_none (Nat.le_of_not_lt h)]
  rfl
theorem z8G (H : Heap) (k : Int) : ∀ (l : List Int) (i j : Nat), z11 Tryz.prog H 3 (.int .i64 k) (zdK l i) j = some ((z6v l k i).map fun p => (j + (p - i), Value.int .i64 (p : Int))) ∧ ∀ p, z6v l k i = some p → i ≤ p := by
 intro l
 induction l with
 | nil => intro i j; exact ⟨rfl, fun p h => by cases h⟩
 | cons y l ih =>
  intro i j;by_cases hk : k = y
  ·subst hk
   refine ⟨?_, fun p h => by simp [z6v] at h; omega⟩;simp only [zdK, z11, zfw, decide_true, z6v, if_true, Option.map_some, Nat.sub_self, Nat.add_zero]
  ·obtain ⟨h1, h2⟩ := ih (i + 1) (j + 1)
   refine ⟨?_, fun p h => by simp only [z6v, hk, if_false] at h; have := h2 p h; omega⟩;simp only [zdK, z11, zfw, z6v, hk, if_false, decide_false, h1];cases hp : z6v l k (i + 1) with
   | none => rfl
   | some p =>
    have := h2 p hp;simp only [Option.map_some, show j + 1 + (p - (i + 1)) = j + (p - i) by omega]
def NumAt (H : Heap) (v : Value) (L : List Int) : Prop := ∃ m, v = .map (some m) ∧ H m = some (.map (z9s L L.length) (List.range L.length) L.length)
theorem NumAt.ext {nx nx' : Nat} {H H' : Heap} {v : Value} {L : List Int} (h : NumAt H v L) (hx : Ext nx H nx' H') (hok : ∀ id o, H id = some o → id < nx) : NumAt H' v L := by
 obtain ⟨m, h1, h2⟩ := h;exact ⟨m, h1, by rw [hx.2 m (hok _ _ h2)]; exact h2⟩
def z0y (L : List Int) (n : Int) : Option Int := (z6v L n 0).map fun p => (p : Int)
theorem NumAt.told {H : Heap} {v : Value} {L : List Int} (h : NumAt H v L) (n : Int) : z1O Tryz.prog H 55 v (.int .i64 n) true = some (.tuple #[.int .i64 ((z0y L n).getD 0), .bool (z0y L n).isSome]) := by
 obtain ⟨m, rfl, hm⟩ := h;have hmo : z4z H (.map (some m)) = some (z9s L L.length) := by simp only [z4z, hm]
 obtain ⟨c1, _⟩ := z9G n H;unfold z1O;simp only [Tryz.underlying55, hmo, show z6F Tryz.prog 3 = some (.int .i64 0) from rfl, c1, show (Tryz.prog.underlying 3).isSome = true from rfl, and_self, if_true, zcL, (z8G H n L 0 0).1, z0y];cases z6v L n 0 <;> rfl
theorem NumAt.told1 {H : Heap} {v : Value} {L : List Int} (h : NumAt H v L) (n : Int) : z1O Tryz.prog H 55 v (.int .i64 n) false = some (.int .i64 ((z0y L n).getD 0)) := by
 obtain ⟨m, rfl, hm⟩ := h;have hmo : z4z H (.map (some m)) = some (z9s L L.length) := by simp only [z4z, hm]
 obtain ⟨c1, _⟩ := z9G n H;unfold z1O;simp only [Tryz.underlying55, hmo, show z6F Tryz.prog 3 = some (.int .i64 0) from rfl, c1, show (Tryz.prog.underlying 3).isSome = true from rfl, and_self, if_true, zcL, (z8G H n L 0 0).1, z0y];cases z6v L n 0 <;> rfl
def zE (L l : List Int) : List Int := l.filterMap (z0y L)
theorem zbF (L : List Int) {l : List Int} {i : Nat} (h : i < l.length) : zE L (l.take (i + 1)) = zE L (l.take i) ++ (z0y L l[i]).toList := by
 unfold zE;rw [List.take_succ_eq_append_getElem h, List.filterMap_append];congr 1
theorem z31 : Am.z0F Tryz.prog 27 := ⟨Tryz.f27, Tryz.func27, by kernel_rfl, by kernel_rfl⟩
theorem zcr (W0 : World) {nx : Nat} {H : Heap} {u v : Value} {L l : List Int} (hl : IntsAt H u l) (hll : l.length ≤ 1000000) (hv : NumAt H v L) :
  ACalls Tryz.prog W0 27 [u, v] nx H fun r nx' H' => ∃ ob, OwnInts H' ob 3 r (zE L l) ∧ (∀ b t, ob = some (b, t) → nx ≤ b ∧ b < nx') ∧ Ext nx H nx' H' := by
 refine ze (fn := Tryz.f27) (c := _) Tryz.func27 rfl (fun tm n hn0 htm => ?_);have q0 : tm 0 = u := htm 0;have q1 : tm 1 = v := htm 1;clear htm;replace hn0 : n = 29 := hn0;refine Trip.ok fun hok => ?_;replace hok : ∀ id o, H id = some o → id < nx := hok;obtain ⟨ua, uc, rfl⟩ := hl.slice;refine z8d ?_;refine zu (fun (i : Nat) st => ∃ (tm' : Nat → Value) (nx' : Nat) (H' : Heap) (ob : Option (Nat × Nat)) (r : Value), st = ⟨tm', n, H', nx'⟩ ∧ Ext nx H nx' H' ∧ OwnInts H' ob 3 r (zE L (l.take i)) ∧ (∀ b t, ob = some (b, t) → nx ≤ b ∧ b < nx') ∧ tm' 1 = v ∧ tm' 5 = r ∧ tm' 10 = .slice ua l.length uc ∧ tm' 11 = .int .i64 l.length ∧ tm' 12 = .int .i64 i ∧ i ≤ l.length) (fun i => l.length - i) 0 ?_ ?_
 ·exact ⟨_, _, _, none, _, rfl, Ext.refl, ⟨rfl, rfl, rfl⟩, fun _ _ h => (by cases h), stp, stp, stp, stp, stp, Nat.zero_le _⟩
 ·clear q0 q1
  rintro i st ⟨tm, nx', H', ob, r, rfl, hext, hown, hob, q1, q5, q10, q11, q12, hi⟩;refine Trip.ok fun hok' => ?_;replace hok' : ∀ id o, H' id = some o → id < nx' := hok';have hle := hext.1
  have hkl : (zE L (l.take i)).length ≤ l.length := by
   have h1 : (zE L (l.take i)).length ≤ (l.take i).length := List.length_filterMap_le _ _;rw [List.length_take] at h1;omega
  by_cases hlt : i < l.length
  ·obtain ⟨p, rfl, hc⟩ := hl.get hlt
   have hkt := (hv.ext hext hok).told l[i];have hks := zbF L hlt
   replace hc : zb H' ⟨p.block, p.off + (i : Int).toNat * 1, p.spot⟩ (.int .i64 l[i]) := by
    have := z0W hext hok hc;simpa [zb] using this
   generalize l[i] = y at *;refine zeD ?_;refine z7 (z08 evd evd hkt) ?_;cases hy : z0y L y with
   | none =>
    rw [hy, Option.toList_none, List.append_nil] at hks;simp only [Option.getD_none, Option.isSome_none];refine zba ?_;refine z7 (v := .int .i64 0) (zO evr (by exact rfl)) ?_;refine z7 (v := .bool false) (zO evr (by exact rfl)) ?_;refine z4Q ?_;refine zbc ?_;exact ⟨i + 1, ⟨_, _, _, ob, r, rfl, hext, by rw [hks]; exact hown, hob, stp, stp, stp, stp, stp, by omega⟩, by omega⟩
   | some z =>
    rw [hy, Option.toList_some] at hks;simp only [Option.getD_some, Option.isSome_some];refine zba ?_;refine z7 (v := .int .i64 z) (zO evr (by exact rfl)) ?_;refine z7 (v := .bool true) (zO evr (by exact rfl)) ?_;refine z4Q ?_;refine z05 ?_
    repeat (first | refine z7 (by exact omv) ?_ | refine zd ?_)
    refine z1u (by subst_vars; decide) (by subst_vars; decide) evr (by decide) (by (simp only [z9, ↓reduceIte, reduceIte, Option.some.injEq, Nat.reduceEqDiff, *])) hown (fun b t hb => (hob b t hb).2) (by exact rfl) (by exact rfl) (by exact rfl) (by exact rfl) (by omega) ?_;rintro v6 ob6 H6 hown6 ⟨b6, rfl, hb6⟩ hs6
    have hbb : nx ≤ b6 ∧ b6 < nx' + 1 + 1 := by
     rcases hb6 with rfl | ⟨t6, hb6⟩
     ·exact ⟨by omega, by omega⟩
     ·have := hob _ _ hb6; exact ⟨by omega, by omega⟩
    have hext6 : Ext nx H (nx' + 1 + 1) H6 := ⟨by omega, fun j hj => by rw [hs6 j (by omega) (fun b t hb => by have := (hob b t hb).1; omega)]; exact hext.2 j hj⟩;refine zg7 ?_;exact ⟨i + 1, ⟨_, _, _, some (b6, nx' + 1), v6, rfl, hext6, by rw [hks]; exact hown6, fun b' t' h => by cases h; exact hbb, stp, stp, stp, stp, stp, by omega⟩, by omega⟩
  ·have hin : i = l.length := by omega
   subst hin;rw [List.take_length] at hown;refine zg8 ?_;refine z9w ?_;exact ⟨.inr rfl, _, zh, ob, stp, hob, hext⟩
end Go.Proofs.YteplpegfcpmflaaGreat
namespace Go.Proofs.YteplpegfcpmflaaGreat
open Go.RowKit Go.Am
theorem z60 {α : Type} [DecidableEq α] : ∀ (l m : List α), l.Nodup → (∀ x ∈ l, x ∈ m) → l.length ≤ m.length := by
 intro l
 induction l with
 | nil => intro m _ _; simp
 | cons x l ih =>
  intro m hn h;obtain ⟨h1, h2⟩ := List.nodup_cons.1 hn;have hx := h x (by simp)
  have := ih (m.erase x) h2 (fun y hy => by
   have hne : y ≠ x := fun e => h1 (e ▸ hy);exact (List.mem_erase_of_ne hne).2 (h y (by simp [hy])))
  rw [List.length_erase_of_mem hx] at this;have := List.length_pos_of_mem hx;simp only [List.length_cons];omega
theorem z73 {a : Aut} {t : Thg} (h : ReachT a t) : t ∈ z6z a := by
 cases h with
 | bot => simp [z6z]
 | init hs => simp only [z6z, List.mem_append, List.mem_cons, List.mem_map]; exact .inl (.inr ⟨_, hs, rfl⟩)
 | step hm _ ht => simp only [z6z, List.mem_append, List.mem_flatMap]; exact .inr ⟨_, hm, ht⟩
theorem zaL {a : Aut} (hn : AutLen a) : (z6z a).length ≤ 10000 := by
 have h1 := z41 hn;have h2 := hn.init
 have h3 : ∀ l : List R4, (l.flatMap zV).length = 2 * l.length := fun l => by
  induction l with
  | nil => rfl
  | cons x l ih => simp only [List.flatMap_cons, List.length_append, ih, List.length_cons]; have : (zV x).length = 2 := rfl; omega
 simp only [z6z, List.length_append, List.length_cons, List.length_map, h3];omega
theorem zdd {a : Aut} {F : List Thg} (hn : AutLen a) (hF : F.Nodup) (hr : ∀ t, t ∈ F ↔ ReachT a t) : F.length ≤ 10000 :=
 Nat.le_trans (z60 F (z6z a) hF fun t ht => z73 ((hr t).1 ht)) (zaL hn)
def z2b (L0 L1 : List Int) (r : R4) : Option R4 := (z0y L0 r.1).map fun f => (f, r.2.1, (z0y L0 r.2.2.1).getD 0, (z0y L1 r.2.2.2).getD 0)
def z2c (L0 L1 : List Int) (r : R4) : Option R4 := (z0y L0 r.1).bind fun f => (z0y L1 r.2.2.1).map fun t => (f, r.2.1, t, (z0y L0 r.2.2.2).getD 0)
def z3z (L0 : List Int) (r : R3) : Option R3 := (z0y L0 r.1).map fun f => (f, r.2.1, (z0y L0 r.2.2).getD 0)
def z00 (a : Aut) (L0 L1 : List Int) : Aut := ⟨L0.length, (L1.length : Int) - 1, zE L0 a.init, zE L0 a.final, a.opens.filterMap (z2b L0 L1), a.closes.filterMap (z2c L0 L1), a.inners.filterMap (z3z L0)⟩
def z1t (a : Aut) (kind : Int) (L : List Int) : Prop := L.Pairwise (· < ·) ∧ ∀ x, x ∈ L ↔ ReachT a (kind, x)
theorem zaR {a : Aut} {kind : Int} {L : List Int} (hn : AutLen a) (h : z1t a kind L) : L.length ≤ 10000 := by
 have h1 : (L.map fun x => ((kind, x) : Thg)).Nodup := by
  rw [List.nodup_iff_pairwise_ne, List.pairwise_map];exact h.1.imp fun {x y} hlt e => by cases e; omega
 have := z60 _ (z6z a) h1 (fun t ht => by
  obtain ⟨x, hx, rfl⟩ := List.mem_map.1 ht;exact z73 ((h.2 x).1 hx))
 rw [List.length_map] at this;exact Nat.le_trans this (zaL hn)
theorem z2Q {α β : Type} (f : α → Option β) {l : List α} {i : Nat} (h : i < l.length) : (l.take (i + 1)).filterMap f = (l.take i).filterMap f ++ (f l[i]).toList := by
 rw [List.take_succ_eq_append_getElem h, List.filterMap_append];congr 1
section
variable {P : Program} {H : Heap} {nx : Nat} {ev : Operand → Option Value} {dst : Option Tmp} {type : TypeId} {pos : String} {after : Array Edge} {guard : Option (Nat × Bool)}
theorem zes {t k e : TypeId} {x : Operand} {m : Nat} {es : List (Value × Value)} {bs : List Nat} {clk : Nat} (hx : ev x = some (.map (some m))) (hu : P.underlying t = some (.map k e)) (hm : H m = some (.map es bs clk)) :
  aop P H nx ev ⟨dst, .call ⟨.builtin .len, #[x], #[t]⟩, type, pos, after, guard⟩ = some (.int .i64 es.length, .none) := by simp [aop, hx, z0q, z0s, zgn, hu, z4z, hm]
end
end Go.Proofs.YteplpegfcpmflaaGreat
namespace Go.Proofs.YteplpegfcpmflaaGreat
open Go.RowKit Go.Am
attribute [local irreducible] aop OpsL Trip zC z36 OpsK OpsR
theorem z9U {a : Aut} (hi0 : ∀ s, ¬ s ∈ a.init) (hm0 : ∀ m, ¬ m ∈ zP a) (t : Thg) : t ∈ [((1, 0) : Thg)] ↔ ReachT a t := by
 constructor
 ·intro h
  rw [List.mem_singleton] at h;subst h;exact .bot
 ·intro h
  cases h with
  | bot => simp
  | init hs => exact absurd hs (hi0 _)
  | step hm _ _ => exact absurd hm (hm0 _)
theorem zh9 (W0 : World) {nx : Nat} {H : Heap} {a : Aut} {vi vf vo vc vn : Value} (ha : AutIn H a vi vf vo vc vn) (hn : AutLen a) (hi0 : ∀ s, ¬ s ∈ a.init) (hm0 : ∀ m, ¬ m ∈ zP a) :
  ACalls Tryz.prog W0 25 [.agg (zA a vi vf vo vc vn).toArray] nx H fun v nx' H' => ∃ (m : Nat) (F : List Thg), v = .map (some m) ∧ H' m = some (.map (F.map fun t => (thV t, .agg #[])) (List.range F.length) F.length) ∧ F.Nodup ∧ (∀ t, t ∈ F ↔ ReachT a t) ∧ nx ≤ m ∧ m < nx' ∧ Ext nx H nx' H' := by
 obtain ⟨ai, ci, rfl⟩ := ha.init.slice;obtain ⟨af, cf, rfl⟩ := ha.final.slice;obtain ⟨ao, co, rfl⟩ := ha.opens.slice;obtain ⟨ac, cc, rfl⟩ := ha.closes.slice;obtain ⟨an, cn, rfl⟩ := ha.inners.slice;refine ze (fn := Tryz.f25) (c := _) Tryz.func25 rfl (fun tm n hn0 htm => ?_);have q0 : tm 0 = .agg (zA a (.slice ai a.init.length ci) (.slice af a.final.length cf) (.slice ao a.opens.length co) (.slice ac a.closes.length cc) (.slice an a.inners.length cn)).toArray := htm 0;clear htm;replace hn0 : n = 75 := hn0;refine Trip.ok fun hok => ?_;replace hok : ∀ id o, H id = some o → id < nx := hok;refine z5o ?_;refine OpsL.new (by subst_vars; decide) (zW evr) ?_;have hx0 : Ext nx H (nx + 1) (H.put nx (.cells (Value.agg (zA a (.slice ai a.init.length ci) (.slice af a.final.length cf) (.slice ao a.opens.length co) (.slice ac a.closes.length cc) (.slice an a.inners.length cn)).toArray).cells.toList 0 none false (some 30))) := zg;have gx : (H.put nx (.cells (Value.agg (zA a (.slice ai a.init.length ci) (.slice af a.final.length cf) (.slice ao a.opens.length co) (.slice ac a.closes.length cc) (.slice an a.inners.length cn)).toArray).cells.toList 0 none false (some 30))) nx = some (.cells (zA a (.slice ai a.init.length ci) (.slice af a.final.length cf) (.slice ao a.opens.length co) (.slice ac a.closes.length cc) (.slice an a.inners.length cn)) 0 none false (some 30)) := z6;have ok0 := zB (o := .cells (Value.agg (zA a (.slice ai a.init.length ci) (.slice af a.final.length cf) (.slice ao a.opens.length co) (.slice ac a.closes.length cc) (.slice an a.inners.length cn)).toArray).cells.toList 0 none false (some 30)) hok;generalize H.put nx (.cells (Value.agg (zA a (.slice ai a.init.length ci) (.slice af a.final.length cf) (.slice ao a.opens.length co) (.slice ac a.closes.length cc) (.slice an a.inners.length cn)).toArray).cells.toList 0 none false (some 30)) = G at *;refine z9r ?_;refine OpsL.new (by subst_vars; decide) z25 ?_;have hx1 : Ext (nx + 1) G (nx + 1 + 1) (G.put (nx + 1) (.map [] [] 0)) := zg;have gm : (G.put (nx + 1) (.map [] [] 0)) (nx + 1) = some (.map [] [] 0) := z6;have ok1 := zB (o := .map [] [] 0) ok0;generalize G.put (nx + 1) (.map [] [] 0) = G1 at *;have gx1 := (hx1.2 nx (by omega)).trans gx;have ha1 := ha.ext (hx0.trans hx1) hok
 repeat fail
 refine z7 (za (k := 7) (vs := zA a (.slice ai a.init.length ci) (.slice af a.final.length cf) (.slice ao a.opens.length co) (.slice ac a.closes.length cc) (.slice an a.inners.length cn)) evd (by exact rfl) rfl (by exact rfl) (zx gx1 rfl)) ?_;refine z0g (hf := z6f) (hc := (zf4 W0 ha1 hn).ok) (h := ?_);rintro v1 n1 H1 ⟨⟨ob1, w1, x1, b1⟩, ok1'⟩;refine z0g (hf := z4N) (hc := (zaK W0 (w1.at z0r) (z41 hn)).ok) (h := ?_);rintro v2 n2 H2 ⟨⟨W, rfl, hw, x2⟩, ok2⟩;have hle1 := x1.1;have hle2 := x2.1;have gm2 : H2 (nx + 1) = some (.map [] [] 0) := by rw [x2.2 _ (by omega), x1.2 _ (by omega)]; exact gm
 have gx2 : H2 nx = some (.cells (zA a (.slice ai a.init.length ci) (.slice af a.final.length cf) (.slice ao a.opens.length co) (.slice ac a.closes.length cc) (.slice an a.inners.length cn)) 0 none false (some 30)) := by rw [x2.2 _ (by omega), x1.2 _ (by omega)]; exact gx1
 have ha2 := ha1.ext (x1.trans x2) ok1;have hxH : Ext nx H n2 H2 := ((hx0.trans hx1).trans x1).trans x2;clear gx gx1 gm w1 b1 ha ha1 x1 x2 hx0 hx1 ok0 ok1 ok1';refine z9r ?_;refine z7 (zy (v := thV (1, 0)) (l := [(0, .int .i64 1), (1, .int .i64 0)]) (by simp only [zt, ASt.ev, z9, ↓reduceIte, reduceIte, Option.some.injEq, Nat.reduceEqDiff, zY, zk, *]) krf) ?_;refine OpsL.new (by subst_vars; decide) (zl (l := [(0, thV (1, 0))]) (r := (.slice (some ⟨n2, 0, none⟩) 1 1, .new (.cells (z1m (1, 0)) 2 none false (some 101)))) (by simp only [zt, ASt.ev, z9, ↓reduceIte, reduceIte, Option.some.injEq, Nat.reduceEqDiff, *]) krf) ?_;have x3 : Ext n2 H2 (n2 + 1) (H2.put n2 (.cells (z1m (1, 0)) 2 none false (some 101))) := zg;have gt : (H2.put n2 (.cells (z1m (1, 0)) 2 none false (some 101))) n2 = some (.cells (z1m (1, 0)) 2 none false (some 101)) := z6;have ok3 := zB (o := .cells (z1m (1, 0)) 2 none false (some 101)) ok2;generalize H2.put n2 (.cells (z1m (1, 0)) 2 none false (some 101)) = G3 at *;have gx3 := (x3.2 nx (by omega)).trans gx2;have gm3 := (x3.2 (nx + 1) (by omega)).trans gm2;have ha3 := ha2.ext x3 ok2;have hw3 := hw.ext x3;have ci0 : zb G3 ⟨nx, 0 + 2, none⟩ (.slice ai a.init.length ci) := by rw [Nat.zero_add]; exact z8 gx3 rfl
 have hli := hn.init;clear gx2 gm2 hw ha2 ok2;refine zhO ?_;have hl0 : ¬ 0 < a.init.length := fun h => hi0 _ (List.getElem_mem h);refine Trip.mono (Q := fun e st => e = .exit 0 ∧ ∃ (tm' : Nat → Value), st = ⟨tm', n, G3, n2 + 1⟩ ∧ tm' 3 = .map (some (nx + 1)) ∧ tm' 4 = .map (some n1) ∧ tm' 5 = .slice (some ⟨n2, 0, none⟩) 1 1) ?_ ?_
 ·refine zu (fun (i : Nat) st => ∃ (tm' : Nat → Value), st = ⟨tm', n, G3, n2 + 1⟩ ∧ tm' 3 = .map (some (nx + 1)) ∧ tm' 4 = .map (some n1) ∧ tm' 5 = .slice (some ⟨n2, 0, none⟩) 1 1 ∧ tm' 22 = .int .i64 a.init.length ∧ tm' 23 = .int .i64 0) (fun _ => 0) 0 ?_ ?_
  ·exact ⟨_, rfl, stp, stp, stp, stp, stp⟩
  ·rintro i st ⟨tm, rfl, q3, q4, q5, q22, q23⟩
   refine z9t ?_;exact ⟨rfl, _, rfl, stp, stp, stp⟩
 rintro e st ⟨rfl, tm', rfl, q3, q4, q5⟩;refine z6W ?_;have hc3 : G3 (nx + 1) = some (.map (([] : List Thg).map fun t => (thV t, .agg #[])) (List.range ([] : List Thg).length) ([] : List Thg).length) := gm3;have hle12 : nx + 1 + 1 ≤ n2 := by omega
 clear ci0 gx3
 repeat (first | refine Trip.seq ?_ | refine Trip.block ?_)
 refine zu (fun (p : Nat) st => ∃ (tm' : Nat → Value) (nx' : Nat) (H' : Heap), st = ⟨tm', n, H', nx'⟩ ∧ n2 + 1 ≤ nx' ∧ (∀ j, j < n2 + 1 → j ≠ nx + 1 → H' j = G3 j) ∧ (∀ id o, H' id = some o → id < nx') ∧ H' (nx + 1) = some (.map ((([((1, 0) : Thg)] : List Thg).take p).map fun t => (thV t, .agg #[])) (List.range (([((1, 0) : Thg)] : List Thg).take p).length) (([((1, 0) : Thg)] : List Thg).take p).length) ∧ tm' 3 = .map (some (nx + 1)) ∧ tm' 4 = .map (some n1) ∧ tm' 5 = .slice (some ⟨n2, 0, none⟩) (1 - p) 1 ∧ p ≤ 1) (fun p => 1 - p) 0 ?_ ?_
 ·exact ⟨_, _, _, rfl, Nat.le_refl _, fun _ _ _ => rfl, ok3, hc3, stp, stp, stp, Nat.zero_le _⟩
 ·clear q3 q4 q5 hc3 ok3 gm3
  rintro p st ⟨tm, nx', H', rfl, hle, hFr, hok', hcell, q3, q4, q5, hp⟩;by_cases h0 : p = 0
  ·subst h0
   have hg : z0L H' ⟨n2, 0 + ((1 : Int) - 1).toNat * 2, none⟩ 2 = some (z1m (1, 0)) := by
    unfold z0L;simp only [(hFr n2 (by omega) (by omega)).trans gt];rfl
   have q5' : tm 5 = .slice (some ⟨n2, 0, none⟩) 1 1 := q5;clear q5;refine zi9 ?_;refine OpsL.new (by subst_vars; decide) (zw (l := (rep 2 [.int .i64 0])) krf) ?_;refine OpsL.upd (zp (k := 2) (u := thV (1, 0)) evd evr (by exact rfl) rfl (o := .cells (z1m (1, 0)) 0 none false (some 101)) (zz (vs := (z1m (1, 0))) z6 rfl rfl)) ?_;obtain ⟨G5, hG5⟩ : ∃ G0, G0 = (H'.put nx' (.cells (rep 2 [.int .i64 0]) 0 none false (some 101))).put nx' (.cells (z1m (1, 0)) 0 none false (some 101)) := ⟨_, rfl⟩;have xG5 : Ext nx' H' (nx' + 1) G5 := ⟨Nat.le_succ _, fun j hj => by rw [hG5, z5 (by omega), z5 (by omega)]⟩;have kG5 : ∀ id o, G5 id = some o → id < nx' + 1 := by rw [hG5]; exact zL (zB hok') z6
   have bG5 : G5 nx' = some (.cells (z1m (1, 0)) 0 none false (some 101)) := by rw [hG5, z6]
   rw [← hG5];clear hG5 hg;have g52 : G5 n2 = some (.cells (z1m (1, 0)) 2 none false (some 101)) := by rw [xG5.2 n2 (by omega), hFr n2 (by omega) (by omega)]; exact gt
   have hsl : z0P Tryz.prog G5 102 (.slice (some ⟨n2, 0, none⟩) 1 1) none (some (.int .i64 ((1 : Int) - 1))) none = some (.slice (some ⟨n2, 0, none⟩) 0 1) := by
    have := z5k (P := Tryz.prog) (H := G5) (t := 102) (el := 101) (sz := 2) (a := ⟨n2, 0, none⟩) (len := 1) (cap := 1) (l := 0) (h := 0) (lo := none) (hi := some (.int .i64 ((1 : Int) - 1))) (by exact rfl) (by exact rfl) g52 rfl rfl (.inl ⟨rfl, rfl⟩) (.inr ⟨.i64, rfl⟩) (Nat.le_refl _) (Nat.zero_le _)
    rwa [if_neg (by omega)] at this
   repeat (first | (refine z7 (by first | exact omv | exact z1s | exact zeJ) ?_) | refine Trip.seq ?_ | refine zd ?_ | (refine OpsL.nil ?_; (change Trip _ _ _ _ _)))
   refine z7 (zS (r := .slice (some ⟨n2, 0, none⟩) 0 1) (a := none) (b := some (.int .i64 ((1 : Int) - 1))) (c := none) evd rfl (by simp only [z0G, ASt.ev, z9, ↓reduceIte, reduceIte, Option.some.injEq, Nat.reduceEqDiff, Option.map_some, *] <;> rfl) rfl hsl) ?_;have hcell5 : G5 (nx + 1) = some (.map (([] : List Thg).map fun t => (thV t, .agg #[])) (List.range ([] : List Thg).length) ([] : List Thg).length) := (xG5.2 _ (by omega)).trans hcell;have hF5 : FoundAt G5 (.map (some (nx + 1))) [] := ⟨nx + 1, _, _, rfl, hcell5⟩;refine z4Q ?_;refine z7 (za (k := 2) (vs := z1m (1, 0)) evd (by exact rfl) rfl (by exact rfl) (zx bG5 rfl)) ?_;refine z7 (z08 evd evr (hF5.told (1, 0))) ?_;refine zhN ?_;refine OpsL.new (by subst_vars; decide) (zw (l := []) krf) ?_;refine OpsL.upd (zp (k := 0) (u := .agg #[]) evd evr (by exact rfl) rfl (o := .cells [] 0 none false (some 103)) (zz (vs := []) z6 rfl rfl)) ?_;obtain ⟨G6, hG6⟩ : ∃ G0, G0 = (G5.put (nx' + 1) (.cells [] 0 none false (some 103))).put (nx' + 1) (.cells [] 0 none false (some 103)) := ⟨_, rfl⟩;have xG6 : Ext (nx' + 1) G5 ((nx' + 1) + 1) G6 := ⟨Nat.le_succ _, fun j hj => by rw [hG6, z5 (by omega), z5 (by omega)]⟩;have kG6 : ∀ id o, G6 id = some o → id < (nx' + 1) + 1 := by rw [hG6]; exact zL (zB kG5) z6
   rw [← hG6];clear hG6;have hc6 := (xG6.2 (nx + 1) (by omega)).trans hcell5;have hb6 := (xG6.2 nx' (Nat.lt_succ_self _)).trans bG5;have hF6 : ∀ j, j < n2 + 1 → j ≠ nx + 1 → G6 j = G3 j := fun j h1 h2 => by rw [xG6.2 _ (by omega), xG5.2 _ (by omega)]; exact hFr j h1 h2
   simp only [List.not_mem_nil, decide_false];refine z4Q ?_;refine zU ?_;refine zci ?_;refine z7 (za (k := 2) (vs := z1m (1, 0)) evd (by exact rfl) rfl (by exact rfl) (zx hb6 rfl)) ?_;refine z7 (zy (v := .agg #[]) (l := []) (by simp only [zt]) krf) ?_;have hupd : zG Tryz.prog G6 53 (.map (some (nx + 1))) (thV (1, 0)) (.agg #[]) = some (.upd (nx + 1) (.map (([((1, 0) : Thg)] : List Thg).map fun t => (thV t, .agg #[])) (List.range 1) 1)) := FoundAt.put hc6 (by simp);refine OpsL.upd (z0V evd evr evd hupd) ?_;obtain ⟨G7, hG7⟩ : ∃ G0, G0 = G6.put (nx + 1) (.map (([((1, 0) : Thg)] : List Thg).map fun t => (thV t, .agg #[])) (List.range 1) 1) := ⟨_, rfl⟩;have hc7 : G7 (nx + 1) = some (.map (([((1, 0) : Thg)] : List Thg).map fun t => (thV t, .agg #[])) (List.range 1) 1) := by rw [hG7, z6]
   have ok7 : ∀ id o, G7 id = some o → id < nx' + 1 + 1 := by rw [hG7]; exact zL kG6 hc6
   have hF7 : ∀ j, j < n2 + 1 → j ≠ nx + 1 → G7 j = G3 j := fun j h1 h2 => by rw [hG7, z5 h2]; exact hF6 j h1 h2
   have hb7 : G7 nx' = some (.cells (z1m (1, 0)) 0 none false (some 101)) := by rw [hG7, z5 (by omega)]; exact hb6
   rw [← hG7];clear hG7 hupd hc6 hb6 hF6 kG6 xG6 xG5 kG5 bG5 g52 hsl hcell5 hF5;obtain ⟨r, htell⟩ := hw3.tells (1, 0);have hwf : WaitIn G7 n1 n1 (nx' + 1 + 1) (z4v (zP a)) W := hw3.framed (fun j h3 h4 => hF7 j h4 (by omega)) (by omega);have hw0 : z4v (zP a) (1, 0) = [] := List.eq_nil_iff_forall_not_mem.2 fun m hm => hm0 m (List.mem_filter.1 hm).1;refine z7i ?_;refine z7 (za (k := 2) (vs := z1m (1, 0)) evd (by exact rfl) rfl (by exact rfl) (zx hb7 rfl)) ?_;refine z7 (z08 evd evr (htell G7 _ hwf).1) ?_;have hrr := (htell G7 _ hwf).2;rw [hw0] at hrr;obtain ⟨ra, rc, rfl⟩ := hrr.slice
   repeat (first | (refine z7 (by first | exact omv | exact z1s) ?_) | refine Trip.block ?_ | (refine OpsL.nil ?_; (change Trip _ _ _ _ _)))
   refine Trip.mono (Q := fun e st => e = .exit 4 ∧ ∃ (tm' : Nat → Value), st = ⟨tm', n, G7, nx' + 1 + 1⟩ ∧ tm' 3 = .map (some (nx + 1)) ∧ tm' 4 = .map (some n1) ∧ tm' 5 = .slice (some ⟨n2, 0, none⟩) 0 1) ?_ ?_
   ·refine zu (fun (i : Nat) st => ∃ (tm' : Nat → Value), st = ⟨tm', n, G7, nx' + 1 + 1⟩ ∧ tm' 3 = .map (some (nx + 1)) ∧ tm' 4 = .map (some n1) ∧ tm' 5 = .slice (some ⟨n2, 0, none⟩) 0 1 ∧ tm' 60 = .int .i64 0 ∧ tm' 61 = .int .i64 0) (fun _ => 0) 0 ?_ ?_
    ·exact ⟨_, rfl, stp, stp, stp, stp, stp⟩
    ·clear q3 q4 q5'
     rintro i st ⟨tm', rfl, q3, q4, q5, q60, q61⟩;refine z9t ?_;exact ⟨rfl, _, rfl, stp, stp, stp⟩
   clear q3 q4 q5';rintro e st ⟨rfl, tm', rfl, q3, q4, q5⟩;refine zdL ?_
   repeat fail
   exact ⟨1, ⟨_, _, _, rfl, by omega, hF7, ok7, hc7, stp, stp, stp, Nat.le_refl _⟩, by omega⟩
  ·have h1 : p = 1 := by omega
   subst h1;have q5' : tm 5 = .slice (some ⟨n2, 0, none⟩) 0 1 := q5;clear q5;refine z6t ?_;refine z18 ?_;refine z5K ?_;refine z9w ?_;refine ⟨.inr rfl, _, zh, nx + 1, [(1, 0)], stp, hcell, by simp, z9U hi0 hm0, by omega, by omega, by have := hxH.1; omega, fun j hj => ?_⟩;rw [hFr j (by omega) (by omega), x3.2 j (by omega), hxH.2 j hj]
def zaH (a : Aut) : Prop := (a.init ≠ [] ∧ muF a [] (z47 a) ≤ 100000) ∨ ((∀ s, ¬ s ∈ a.init) ∧ ∀ m, ¬ m ∈ zP a)
theorem zha (W0 : World) {nx : Nat} {H : Heap} {a : Aut} {vi vf vo vc vn : Value} (ha : AutIn H a vi vf vo vc vn) (hn : AutLen a) (hf : zaH a) :
  ACalls Tryz.prog W0 25 [.agg (zA a vi vf vo vc vn).toArray] nx H fun v nx' H' => ∃ (m : Nat) (F : List Thg), v = .map (some m) ∧ H' m = some (.map (F.map fun t => (thV t, .agg #[])) (List.range F.length) F.length) ∧ F.Nodup ∧ (∀ t, t ∈ F ↔ ReachT a t) ∧ nx ≤ m ∧ m < nx' ∧ Ext nx H nx' H' := by
 rcases hf with ⟨h0, h1⟩ | ⟨h0, h1⟩
 ·exact zi2 W0 ha hn h0 h1
 ·exact zh9 W0 ha hn h0 h1
end Go.Proofs.YteplpegfcpmflaaGreat
namespace Go.Am
open Go.Shelf Go.RowKit Go.Lib
open Go.Sort hiding Below
variable {P : Program} {W0 : World}
theorem zaY (l : List Int) : ∀ v ∈ l.map (Value.int .i64), IntV v := fun v hv => by
 obtain ⟨x, _, rfl⟩ := List.mem_map.1 hv;exact ⟨_, _, rfl⟩
theorem zdO {f : FuncId} {el : TypeId}
  (hs : ∀ (blk off cap : Nat) (zs : List Int) (w : World), Holds (Value.int .i64) w blk off zs.toArray → blk < w.heap.size → zs.length < 4611686018427387904 → Calls P f #[.slice (some ⟨blk, off, none⟩) zs.length cap] w fun e w' => e = .returned (.tuple #[]) ∧ ∃ n os, w' = grow (putRow (Value.int .i64) (Sort.ahead w n) blk off (zs.mergeSort fun x y => decide (x ≤ y)).toArray) os)
  (h0 : ∀ (cap : Nat) (w : World), Calls P f #[.slice none 0 cap] w fun e w' => e = .returned (.tuple #[]) ∧ w' = w) : zcB P W0 f el := by
 intro nx H ob v l hown hl C w args' hR ha;obtain ⟨h1, h2⟩ := ha
 obtain ⟨v1, rfl⟩ : ∃ v1, args' = [v1] := by
  match args', h1 with
  | [v1], _ => exact ⟨v1, rfl⟩
 have hv1 := h2 0 (by simp) (by simp);simp only [List.getElem_cons_zero] at hv1;cases ob with
 | none =>
  obtain ⟨rfl, hnil, _⟩ := hown;have hl0 : l = [] := by simpa using hnil
  subst hl0
  obtain ⟨cap', rfl⟩ : ∃ cap', v1 = .slice none 0 cap' := by
   cases hv1
   all_goals exact ⟨_, rfl⟩
  refine (h0 cap' w).mono ?_;rintro e' w' ⟨rfl, rfl⟩;exact ⟨_, _, C, nx, H, rfl, ⟨rfl, rfl, ⟨rfl, by simp [z4S], by simp [z4S]⟩, fun _ _ => rfl⟩, hR, .tuple _ _ rfl (fun i h => absurd h (by simp)), Stp.refl _ _ _⟩
 | some bt =>
  obtain ⟨b, t⟩ := bt;obtain ⟨rfl, hlen, rest, ho⟩ := hown
  obtain ⟨cap', rfl⟩ : ∃ cap', v1 = .slice (some ⟨(C.loc b).1, (C.loc b).2, none⟩) l.length cap' := by
   cases hv1 with
   | slc _ _ _ b' cap' k1 k2 =>
    obtain ⟨e1, _⟩ := k2 _ ho rfl;exact ⟨cap', by rw [e1]; simp [Corr.at]⟩
  have hH : Holds (Value.int .i64) w (C.loc b).1 (C.loc b).2 l.toArray := z8M (z5Z hR ho (zaY l));refine (hs (C.loc b).1 (C.loc b).2 cap' l w hH (hR.obj _ _ ho).blk (by omega)).mono ?_;rintro e' w' ⟨rfl, n, os, rfl⟩;have hsize : (z4S l).length = l.length := (z3Y l).length_eq;have hput := z9E hR ho (cs' := (z4S l).map (Value.int .i64)) (by simp [hsize]) (zaY _) n os;rw [show (l.mergeSort fun x y => decide (x ≤ y)) = z4S l from rfl, z75];refine ⟨_, _, C, nx, _, rfl, ⟨rfl, rfl, ⟨by rw [hsize], by simp [hsize], rest, z6⟩, fun k hk => z5 (hk b t rfl)⟩, hput.1, .tuple _ _ rfl (fun i h => absurd h (by simp)), hput.2⟩
end Go.Am
namespace Go.Proofs.YteplpegfcpmflaaGreat
open Go.Shelf Go.RowKit Go.Lib Go.Am
open Go.Sort hiding Below
shelf_lay Lays.n189 Nm 189 at Tryz as sortI189
theorem z8C (W0 : World) : zcB Tryz.prog W0 62 3 :=
 zdO (fun blk off cap zs w hH hb hl => Any.slices_Sort_int sortI189 blk off cap zs w hH hb hl) (fun cap w => Any.slices_Sort_int_none sortI189 none cap w)
end Go.Proofs.YteplpegfcpmflaaGreat

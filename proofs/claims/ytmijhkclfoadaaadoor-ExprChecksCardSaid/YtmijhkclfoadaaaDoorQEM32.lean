import Derived.Test.YtmijhkclfoadaaaDoorQEM31
import Derived.Test.YtmijhkclfoadaaaDoorQEM21
namespace Go.Am
set_option linter.unusedSimpArgs false
set_option linter.unusedVariables false
open Go.RowKit
structure OutX (H : Heap) (out : List RowIt) (from_ : Nat → Prop) (ls : List (List Ex)) : Prop where
  each : ∀ o ∈ out, RowX H o
  nd : (out.flatMap (·.B)).Nodup
  sub : ∀ b ∈ out.flatMap (·.B), from_ b
  ls : out.map (·.l) = ls
theorem OutX.push {H : Heap} {out : List RowIt} {f g : Nat → Prop} {ls ls' : List (List Ex)} {it : RowIt} (h : OutX H out f ls) (hi : RowX H it) (hd : it.B.Nodup) (hf : ∀ b ∈ it.B, ¬ f b ∧ g b) (hfg : ∀ b, f b → g b) (hl : ls' = ls ++ [it.l]) : OutX H (out ++ [it]) g ls' := by
  refine ⟨fun o ho => ?_, ?_, fun b hb => ?_, by rw [List.map_append, h.ls, hl]; rfl⟩
  · rcases List.mem_append.1 ho with ho | ho
    · exact h.each o ho
    · rw [List.mem_singleton.1 ho]; exact hi
  · rw [List.flatMap_append, List.nodup_append]
    refine ⟨h.nd, by simpa using hd, fun a ha b hb e => ?_⟩
    subst e
    exact (hf a (by simpa using hb)).1 (h.sub a ha)
  · rw [List.flatMap_append, List.mem_append] at hb
    rcases hb with hb | hb
    · exact hfg b (h.sub b hb)
    · exact (hf b (by simpa using hb)).2
theorem mass_mem : ∀ (ls : List (List Ex)) {l : List Ex}, l ∈ ls → l.length ≤ massL ls
  | [], l, h => by cases h
  | m :: ls, l, h => by
    unfold massL
    simp only [List.map_cons, List.sum_cons]
    rcases List.mem_cons.1 h with rfl | h
    · have := size_len l 0
      omega
    · have := mass_mem ls h
      unfold massL at this
      omega
theorem nextL_app (a b : List (List Ex)) : nextL (a ++ b) = nextL a ++ nextL b := by
  unfold nextL
  rw [List.flatten_append, List.filter_append, List.map_append]
theorem kidsX_le (l : List Ex) (j : Nat) : (kidsX (l.take j)).length ≤ (kidsX l).length := by
  unfold kidsX
  rw [List.length_map, List.length_map]
  exact ((List.take_sublist j l).filter _).length_le
theorem next_le {ls : List (List Ex)} {i j : Nat} (hi : i < ls.length) (hne : ∀ l ∈ nextL ls, l ≠ []) : (nextL (ls.take i) ++ kidsX (ls[i].take j)).length ≤ massL ls := by
  have h1 := mass_len (nextL ls) hne
  have h2 := nextL_mass ls
  have h3 : nextL ls = nextL (ls.take i) ++ (kidsX ls[i] ++ nextL (ls.drop (i + 1))) := by
    conv => lhs; rw [← List.take_append_drop i ls, List.drop_eq_getElem_cons hi]
    rw [nextL_app, show ls[i] :: ls.drop (i + 1) = [ls[i]] ++ ls.drop (i + 1) from rfl, nextL_app]
    congr 2
    have := nextL_snoc [] ls[i]
    simpa [nextL] using this
  have h4 := kidsX_le ls[i] j
  rw [h3] at h1 h2
  simp only [List.length_append] at h1 h4 ⊢
  rw [← h3] at h2
  have h5 : (nextL (ls.take i)).length + ((kidsX ls[i]).length + (nextL (ls.drop (i + 1))).length) ≤ massL ls := by
    rw [h3] at h2
    omega
  omega
theorem nextL_ne {ls : List (List Ex)} : ∀ l ∈ nextL ls, l ≠ [] := fun l hl e => by
  unfold nextL at hl
  obtain ⟨x, hx, rfl⟩ := List.mem_map.1 hl
  have := (List.mem_filter.1 hx).2
  rw [e] at this
  simp at this
theorem RowX.ext {H H' : Heap} {nx nx' : Nat} {it : RowIt} (h : RowX H it) (hx : Ext nx H nx' H') (hok : ∀ id o, H id = some o → id < nx) : RowX H' it := by
  obtain ⟨p, c, h1, h2, h3⟩ := h
  exact ⟨p, c, h1, h2, h3.ext hx hok⟩
theorem own_sameX {H H' : Heap} {ob : Option (Nat × Nat)} {el : TypeId} {sz k : Nat} {v : Value} {cs : List Value} (hs : ∀ b t, ob = some (b, t) → H' b = H b) (h : OwnRow H ob el sz v cs k) : OwnRow H' ob el sz v cs k := by
  cases ob with
  | none => exact h
  | some bt =>
    obtain ⟨b, t⟩ := bt
    obtain ⟨h1, h2, rest, h3⟩ := h
    exact ⟨h1, h2, rest, by rw [hs b t rfl]; exact h3⟩
theorem OutX.weak {H : Heap} {out : List RowIt} {f g : Nat → Prop} {ls ls' : List (List Ex)} (h : OutX H out f ls) (hfg : ∀ b, f b → g b) (hl : ls' = ls) : OutX H out g ls' := ⟨h.each, h.nd, fun b hb => hfg b (h.sub b hb), by rw [hl]; exact h.ls⟩
end Go.Am
namespace Go.Proofs.YtmijhkclfoadaaaDoor
set_option linter.unusedSimpArgs false
set_option linter.unusedVariables false
open Go.Am Go.RowKit
theorem aop_lookupX {P : Program} {H : Heap} {nx : Nat} {ev : Operand → Option Value} {dst : Option Tmp} {type : TypeId} {pos : String} {after : Array Edge} {guard : Option (Nat × Bool)} {t : TypeId} {x i : Operand} {ok : Bool} {v k r : Value} (hx : ev x = some v) (hi : ev i = some k) (h : aLookup P H t v k ok = some r) : aop P H nx ev ⟨dst, .lookup t x i ok, type, pos, after, guard⟩ = some (r, .none) := by simp [aop, hx, hi, h]
theorem aop_mapUpdateX {P : Program} {H : Heap} {nx : Nat} {ev : Operand → Option Value} {dst : Option Tmp} {type : TypeId} {pos : String} {after : Array Edge} {guard : Option (Nat × Bool)} {t : TypeId} {m k x : Operand} {a b c : Value} {e : Eff} (hm : ev m = some a) (hk : ev k = some b) (hx : ev x = some c) (h : aMapUpdate P H t a b c = some e) : aop P H nx ev ⟨dst, .mapUpdate t m k x, type, pos, after, guard⟩ = some (undef, e) := by simp [aop, hm, hk, hx, h]
theorem aop_makeMapX {P : Program} {H : Heap} {nx : Nat} {ev : Operand → Option Value} {dst : Option Tmp} {type : TypeId} {pos : String} {after : Array Edge} {guard : Option (Nat × Bool)} {t : TypeId} : aop P H nx ev ⟨dst, .makeMap t none, type, pos, after, guard⟩ = some (.map (some nx), .new (.map [] [] 0)) := by simp [aop, evOpt, aMakeMap]
attribute [local irreducible] aop OpsL Trip blockExit OpsD OpsK OpsR
theorem entersInsideX : Am.Enters Tryd.prog 99 := ⟨Tryd.f99, Tryd.func99, by kernel_rfl, by kernel_rfl⟩
set_option maxRecDepth 20000 in
set_option maxHeartbeats 8000000 in
theorem insideXC (W0 : World) {its : List RowIt} {v : Value} {nx : Nat} {H : Heap} (hL : LevAt H v its) (hms : massL (its.map (·.l)) ≤ 1000000) : ACalls Tryd.prog W0 99 [v] nx H fun r nx' H' => Ext nx H nx' H' ∧ ∃ its', LevAt H' r its' ∧ its'.map (·.l) = nextL (its.map (·.l)) ∧ ∀ b ∈ its'.flatMap (·.B), b ∈ its.flatMap (·.B) := by
  obtain ⟨la, lc, hv⟩ := hL.rows.slice
  rw [List.length_map] at hv
  refine ACalls.by_trip (fn := Tryd.f99) (c := _) Tryd.func99 rfl (fun tm n hn0 htm => ?_)
  have e0 : tm 0 = .slice la its.length lc := by rw [← hv]; exact htm 0
  clear htm
  replace hn0 : n = 50 := hn0
  refine Trip.ok fun hok => ?_
  replace hok : ∀ id o, H id = some o → id < nx := hok
  have hlen : its.length ≤ 1000000 := by
    have := mass_len (its.map (·.l)) (fun l hl => by
      obtain ⟨it, hi, rfl⟩ := List.mem_map.1 hl
      obtain ⟨p, c, _, h2, _⟩ := hL.each it hi
      exact h2)
    rw [List.length_map] at this
    omega
  repeat (first | (refine OpsL.q (by exact oasg) ?_) | (refine Trip.seq ?_) | (refine Trip.ops ?_) | (refine OpsL.nil ?_; (change Trip _ _ _ _ _)))
  refine OpsL.new (by subst_vars; decide) aop_makeMapX ?_
  obtain ⟨F0, hF0⟩ : ∃ F0, F0 = H.put nx (.map [] [] 0) := ⟨_, rfl⟩
  have x0 : Ext nx H (nx + 1) F0 := by rw [hF0]; exact Ext.newPut
  have m0 : F0 nx = some (.map (esX []) [] 0) := by rw [hF0]; exact Heap.put_eq
  rw [← hF0]
  clear hF0
  repeat (first | (refine OpsL.q (by first | exact oasg | exact omv | exact olen) ?_) | (refine Trip.seq ?_) | (refine Trip.ops ?_) | (refine Trip.block ?_) | (refine OpsL.nil ?_; (change Trip _ _ _ _ _)))
  refine Trip.inv (fun (i : Nat) st => ∃ (tm : Nat → Value) (nx' : Nat) (F : Heap) (out : List RowIt) (ob : Option (Nat × Nat)) (v3 : Value) (bs : List Nat) (clk : Nat), st = ⟨tm, n, F, nx'⟩ ∧ Ext nx H nx' F ∧ nx + 1 ≤ nx' ∧ OwnOf encSX 1 26 F ob v3 (out.map (·.sv)) ∧ (∀ b t, ob = some (b, t) → nx + 1 ≤ b ∧ b < nx') ∧ F nx = some (.map (esX out) bs clk) ∧ OutX H out (fun b => b ∈ (its.take i).flatMap (·.B)) (nextL ((its.take i).map (·.l))) ∧ tm 3 = v3 ∧ tm 4 = .map (some nx) ∧ tm 11 = .slice la its.length lc ∧ tm 12 = .int .i64 its.length ∧ tm 13 = .int .i64 i ∧ i ≤ its.length) (fun i => its.length - i) 0 ?_ ?_
  · exact ⟨_, _, _, [], none, _, [], 0, rfl, x0, Nat.le_refl _, ⟨rfl, rfl, rfl⟩, fun _ _ h => (by cases h), m0, ⟨fun o ho => (by cases ho), List.nodup_nil, fun b hb => (by cases hb), rfl⟩, by simp [tmPut, *], by simp [tmPut, *], by simp [tmPut, *], by simp [tmPut, *], by simp [tmPut, *], by omega⟩
  clear e0 x0 m0
  rintro i st ⟨tm, nx', F, out, ob, v3, bs, clk, rfl, hx, hle, hown, hob, hmap, hout, e3, e4, e11, e12, e13, hi⟩
  repeat (first | (refine OpsL.q (by exact olss) ?_) | (refine Trip.seq ?_) | (refine Trip.ops ?_) | (refine Trip.block ?_) | (refine Trip.itA (fun _ => ?_) (fun _ => ?_)) | (refine Trip.skip ?_; (change Trip _ _ _ _ _)) | (refine OpsL.nil ?_; (change Trip _ _ _ _ _)))
  · have hlt : i < its.length := by omega
    obtain ⟨it, hit⟩ : ∃ it, its[i] = it := ⟨_, rfl⟩
    have hmem : it ∈ its := by rw [← hit]; exact List.getElem_mem hlt
    have hRow := hL.each it hmem
    have hitl : it.l.length ≤ 1000000 := Nat.le_trans (mass_mem _ (List.mem_map.2 ⟨it, hmem, rfl⟩)) hms
    obtain ⟨p, c, cs, Bs, c0, q, hsv, hne, hpo, hcs, hex, hB⟩ := hRow.open_
    have hcell : ∃ ap, la = some ap ∧ cellAt H ⟨ap.block, ap.off + (i : Int).toNat * 1, ap.spot⟩ (.slice (some p) it.l.length c) := by
      rcases hL.rows with ⟨c', h1, h2⟩ | ⟨a', c', h1, h2⟩
      · have : its = [] := by simpa using h2
        subst this
        simp at hlt
      · rw [List.length_map] at h1
        rw [h1] at hv
        cases hv
        have h3 := h2 i (by simpa using hlt)
        simp only [List.getElem_map, hit, hsv] at h3
        exact ⟨a', rfl, by simpa [cellAt, encSX, slX] using h3⟩
    obtain ⟨ap, rfl, hcell⟩ := hcell
    have hcF := cell_ext hx hok hcell
    have htk : its.take (i + 1) = its.take i ++ [it] := by rw [List.take_succ_eq_append_getElem hlt, hit]
    have hndT : ((its.take i).flatMap (·.B) ++ it.B).Nodup := by
      have h1 := hL.nd
      rw [← List.take_append_drop (i + 1) its, htk, List.flatMap_append, List.flatMap_append] at h1
      have := (List.nodup_append.1 h1).1
      simpa using this
    have hnd2 := List.nodup_append.1 hndT
    have hndB : ((List.range it.l.length).flatMap Bs).Nodup := by have := hnd2.2.1; rw [hB] at this; exact (List.nodup_cons.1 this).2
    repeat (first | (refine OpsL.q (by first | exact oixa | exact old | exact oasg | exact omv | exact olen) ?_) | (refine Trip.seq ?_) | (refine Trip.ops ?_) | (refine Trip.block ?_) | (refine OpsL.nil ?_; (change Trip _ _ _ _ _)))
    refine Trip.inv (fun (j : Nat) st => ∃ (tm : Nat → Value) (nx' : Nat) (F : Heap) (out : List RowIt) (ob : Option (Nat × Nat)) (v3 : Value) (bs : List Nat) (clk : Nat), st = ⟨tm, n, F, nx'⟩ ∧ Ext nx H nx' F ∧ nx + 1 ≤ nx' ∧ OwnOf encSX 1 26 F ob v3 (out.map (·.sv)) ∧ (∀ b t, ob = some (b, t) → nx + 1 ≤ b ∧ b < nx') ∧ F nx = some (.map (esX out) bs clk) ∧ OutX H out (fun b => b ∈ (its.take i).flatMap (·.B) ∨ b ∈ (List.range j).flatMap Bs) (nextL ((its.take i).map (·.l)) ++ kidsX (it.l.take j)) ∧ tm 3 = v3 ∧ tm 4 = .map (some nx) ∧ tm 11 = .slice (some ap) its.length lc ∧ tm 12 = .int .i64 its.length ∧ tm 13 = .int .i64 i ∧ tm 17 = .slice (some p) it.l.length c ∧ tm 18 = .int .i64 it.l.length ∧ tm 19 = .int .i64 j ∧ j ≤ it.l.length) (fun j => it.l.length - j) 0 ?_ ?_
    · exact ⟨_, _, _, out, ob, v3, bs, clk, rfl, hx, hle, hown, hob, hmap, hout.weak (fun b hb => .inl hb) (by simp [kidsX]), by simp [tmPut, *], by simp [tmPut, *], by simp [tmPut, *], by simp [tmPut, *], by simp [tmPut, *], by simp [tmPut, *], by simp [tmPut, *], by simp [tmPut, *], by omega⟩
    clear e3 e4 e11 e12 e13 hx hle hown hob hmap hout hcF
    clear F out ob v3 bs clk nx' tm
    rintro j st ⟨tm, nx', F, out, ob, v3, bs, clk, rfl, hx, hle, hown, hob, hmap, hout, e3, e4, e11, e12, e13, e17, e18, e19, hj⟩
    refine Trip.ok fun okF => ?_
    replace okF : ∀ id o, F id = some o → id < nx' := okF
    repeat (first | (refine OpsL.q (by exact olss) ?_) | (refine Trip.seq ?_) | (refine Trip.ops ?_) | (refine Trip.block ?_) | (refine Trip.itA (fun _ => ?_) (fun _ => ?_)) | (refine Trip.skip ?_; (change Trip _ _ _ _ _)) | (refine OpsL.nil ?_; (change Trip _ _ _ _ _)))
    · have hjt : j < it.l.length := by omega
      have hbd := next_le (ls := its.map (·.l)) (i := i) (j := j + 1) (by rw [List.length_map]; exact hlt) nextL_ne
      rw [← List.map_take] at hbd
      simp only [List.getElem_map, hit] at hbd
      rw [kidsX_take hjt, ← List.append_assoc, List.length_append, ← hout.ls, List.length_map] at hbd
      have hkt := kidsX_take hjt
      have hxr := hex j hjt
      have hcj := getc_ext hx hok (hcs j hjt)
      obtain ⟨x, hxx⟩ : ∃ x, it.l[j] = x := ⟨_, rfl⟩
      rw [hxx] at hxr hbd hkt
      obtain ⟨xk, xs, xe, xl⟩ := x
      obtain ⟨xa, xc, hcsj⟩ := hxr.cells
      rw [hcsj] at hxr hcj
      replace hcj : getc F ⟨p.block, p.off + (j : Int).toNat * 4, p.spot⟩ 4 = some [.int .i64 xk, .int .i64 xs, .int .i64 xe, .slice xa xl.length xc] := hcj
      have hjr : (List.range (j + 1)).flatMap Bs = (List.range j).flatMap Bs ++ Bs j := by rw [List.range_succ, List.flatMap_append]; simp
      repeat (first | (refine OpsL.q (by first | exact oixa | exact aop_loadAgg (k := 4) (by (first | (simp only [ASt.ev, tmPut, ↓reduceIte, Nat.reduceEqDiff, *]; rfl))) (by exact rfl) rfl (by exact rfl) (by assumption)) ?_))
      refine OpsL.new (by subst_vars; decide) (aop_alloc (l := [.int .i64 0, .int .i64 0, .int .i64 0, .slice none 0 0]) (by exact rfl)) ?_
      obtain ⟨F1, hF1⟩ : ∃ F1, F1 = F.put nx' (.cells [.int .i64 0, .int .i64 0, .int .i64 0, .slice none 0 0] 0 none false (some 28)) := ⟨_, rfl⟩
      have xF1 : Ext nx' F (nx' + 1) F1 := by rw [hF1]; exact Ext.newPut
      have rF1 : F1 nx' = some (.cells [.int .i64 0, .int .i64 0, .int .i64 0, .slice none 0 0] 0 none false (some 28)) := by rw [hF1]; exact Heap.put_eq
      rw [← hF1]
      clear hF1
      refine OpsL.storeX ?_ (by (first | (simp only [ASt.ev, tmPut, ↓reduceIte, Nat.reduceEqDiff, *]; done))) (by (first | (simp only [ASt.ev, tmPut, ↓reduceIte, Nat.reduceEqDiff, *]; rfl))) rF1 rfl rfl rfl
      intro F2 rF2 sF2
      have xF2 : Ext nx' F (nx' + 1) F2 := ⟨Nat.le_succ _, fun q hq => by rw [sF2 q (by omega), xF1.2 q hq]⟩
      have h3 : cellAt F2 ⟨nx', 3, none⟩ (.slice xa xl.length xc) := cellAt_own (off := 3) rF2 (by simp)
      have hx2 := hx.trans xF2
      have hown2 := own_sameX (fun b t e => xF2.2 b (hob b t e).2) hown
      have hmap2 : F2 nx = some (.map (esX out) bs clk) := by rw [xF2.2 nx (by omega)]; exact hmap
      clear xF1 rF1 sF2 hmap hcj
      refine OpsL.nil ?_
      (change Trip _ _ _ _ _)
      repeat (first | (refine OpsL.q (by first | exact ofa | exact old | exact olen | exact oasg | exact omv) ?_) | (refine Trip.seq ?_) | (refine Trip.ops ?_) | (refine OpsL.nil ?_; (change Trip _ _ _ _ _)))
      by_cases hxl : xl = []
      · subst hxl
        rw [if_pos (show (Ex.node xk xs xe ([] : List Ex)).l.isEmpty = true from rfl), List.append_nil] at hkt
        refine OpsL.gtrF ?_ (c := show ¬ (0 : Int) < (([] : List Ex).length : Nat) by simp)
        repeat (first | (refine OpsL.q (by first | exact omv | exact opkF) ?_) | (refine OpsL.nil ?_; (change Trip _ _ _ _ _)) | (refine OpsL.skp ?_))
        refine Trip.ifF ?_
        repeat (first | (refine OpsL.q (by first | exact omv | exact oadd) ?_) | (refine Trip.ops ?_) | (refine Trip.skip ?_; ((repeat (refine blockExit_normal ?_)); change Trip _ _ _ _ _)) | (refine OpsL.nil ?_; (dsimp only)))
        exact ⟨j + 1, ⟨_, _, _, out, ob, v3, bs, clk, rfl, hx2, by omega, hown2, fun b t e => ⟨(hob b t e).1, by have := (hob b t e).2; omega⟩, hmap2, hout.weak (fun b hb => by rw [hjr, List.mem_append]; exact hb.elim Or.inl fun h => Or.inr (Or.inl h)) (by rw [hkt]), by simp [tmPut, *], by simp [tmPut, *], by simp [tmPut, *], by simp [tmPut, *], by simp [tmPut, *], by simp [tmPut, *], by simp [tmPut, *], by simp [tmPut, *], by omega⟩, by omega⟩
      · have hpos : 0 < xl.length := List.length_pos_iff.2 hxl
        have hem : ¬ (Ex.node xk xs xe xl).l.isEmpty = true := fun h => hxl (List.isEmpty_iff.1 h)
        rw [if_neg hem] at hkt hbd
        clear hem
        obtain ⟨p', _, _, rfl, _⟩ := hxr.at rfl (i := 0) hpos
        obtain ⟨item, hitem⟩ : ∃ it' : RowIt, it' = ⟨(some p', xl.length, xc), xl, Bs j⟩ := ⟨_, rfl⟩
        have hri : RowX H item := by rw [hitem]; exact ⟨p', xc, rfl, hxl, hxr.row⟩
        have hil : item.l = xl := by rw [hitem]
        have hiB : item.B = Bs j := by rw [hitem]
        have his : item.sv = (some p', xl.length, xc) := by rw [hitem]
        have hkey : keyX item = .pointer (some ⟨p'.block, p'.off + (0 : Int).toNat * 4, p'.spot⟩) := by rw [hitem]; rfl
        have hsub : ∀ b ∈ Bs j, b ∈ it.B := fun b hb => by rw [hB]; exact List.mem_cons_of_mem _ (List.mem_flatMap.2 ⟨j, List.mem_range.2 hjt, hb⟩)
        have hfresh : ∀ b ∈ item.B, ¬ (b ∈ (its.take i).flatMap (·.B) ∨ b ∈ (List.range j).flatMap Bs) := fun b hb => by
          rw [hiB] at hb
          rintro (h | h)
          · exact hnd2.2.2 b h b (hsub b hb) rfl
          · have h1 := hndB
            rw [show it.l.length = (j + 1) + (it.l.length - (j + 1)) by omega, List.range_add, List.flatMap_append] at h1
            have h2 := (List.nodup_append.1 h1).1
            rw [hjr] at h2
            exact (List.nodup_append.1 h2).2.2 b h b hb rfl
        have hndI : item.B.Nodup := by
          rw [hiB]
          have h1 := hndB
          rw [show it.l.length = (j + 1) + (it.l.length - (j + 1)) by omega, List.range_add, List.flatMap_append] at h1
          have h2 := (List.nodup_append.1 h1).1
          rw [hjr] at h2
          exact (List.nodup_append.1 h2).2.1
        have hneo : ∀ o ∈ out, ∀ b ∈ item.B, b ∉ o.B := fun o ho b hb hbo => hfresh b hb (hout.sub b (List.mem_flatMap.2 ⟨o, ho, hbo⟩))
        have hri2 := hri.ext hx2 hok
        have ho2 : ∀ o ∈ out, RowX F2 o := fun o ho => (hout.each o ho).ext hx2 hok
        have hlk := lookX hmap2 hri2 ho2 hneo
        have hput := putX hmap2 hri2 ho2 hneo
        rw [hkey] at hlk
        rw [hkey, hil] at hput
        refine OpsL.gtrT ?_ (c := show (0 : Int) < (xl.length : Nat) by omega)
        repeat (first | (refine OpsL.q (by first | exact omv | exact ofa | exact old | exact oixa) ?_) | (refine OpsL.ung ?_))
        refine OpsL.p (by subst_vars; decide) (aop_lookupX (by (first | (simp only [ASt.ev, tmPut, ↓reduceIte, Nat.reduceEqDiff, *]; done))) (by (first | (simp only [ASt.ev, tmPut, ↓reduceIte, Nat.reduceEqDiff, *]; rfl))) hlk) ?_
        refine OpsL.ung ?_
        refine OpsL.gtrT ?_ (c := show (0 : Int) < (xl.length : Nat) by omega)
        repeat (first | (refine OpsL.q (by exact opkT) ?_) | (refine OpsL.nil ?_; (change Trip _ _ _ _ _)))
        refine Trip.ifT ?_
        repeat (first | (refine OpsL.q (by first | exact omv | exact ofa | exact old | exact oixa) ?_) | (refine Trip.seq ?_) | (refine Trip.ops ?_))
        refine OpsL.upd (aop_mapUpdateX (by (first | (simp only [ASt.ev, tmPut, ↓reduceIte, Nat.reduceEqDiff, *]; done))) (by (first | (simp only [ASt.ev, tmPut, ↓reduceIte, Nat.reduceEqDiff, *]; rfl))) (by (first | (simp only [ASt.ev, tmPut, ↓reduceIte, Nat.reduceEqDiff, *]; done))) hput) ?_
        obtain ⟨F3, hF3⟩ : ∃ F3, F3 = F2.put nx (.map (esX (out ++ [item])) (bs ++ [clk]) (clk + 1)) := ⟨_, rfl⟩
        have hx3 : Ext nx H (nx' + 1) F3 := ⟨hx2.1, fun q hq => by rw [hF3, Heap.put_ne (by omega)]; exact hx2.2 q hq⟩
        have hmap3 : F3 nx = some (.map (esX (out ++ [item])) (bs ++ [clk]) (clk + 1)) := by rw [hF3]; exact Heap.put_eq
        have hown3 : OwnOf encSX 1 26 F3 ob v3 (out.map (·.sv)) := own_sameX (fun b t e => by rw [hF3]; exact Heap.put_ne (by have := (hob b t e).1; omega)) hown2
        have c3 : cellAt F3 ⟨nx', 3, none⟩ (.slice (some p') xl.length xc) := by
          have : F3 nx' = F2 nx' := by rw [hF3]; exact Heap.put_ne (by omega)
          exact cellAt_own (off := 3) (this.trans rF2) (by simp)
        rw [← hF3]
        clear hF3 h3 hown2 hmap2 hlk hput
        repeat (first | (refine OpsL.q (by first | exact omv | exact ofa | exact old) ?_) | (refine Trip.ops ?_) | (refine OpsL.nil ?_; (change Trip _ _ _ _ _)))
        refine OpsL.new (by subst_vars; decide) (aop_buildSlice (l := [(0, .slice (some p') xl.length xc)]) (r := (.slice (some ⟨nx' + 1, 0, none⟩) 1 1, .new (.cells [.slice (some p') xl.length xc] 1 none false (some 26)))) (by simp [evParts, ASt.ev, tmPut, plainC, plain1, *]) (by exact rfl)) ?_
        obtain ⟨F4, hF4⟩ : ∃ F4, F4 = F3.put (nx' + 1) (.cells [.slice (some p') xl.length xc] 1 none false (some 26)) := ⟨_, rfl⟩
        have xF4 : Ext (nx' + 1) F3 (nx' + 1 + 1) F4 := by rw [hF4]; exact Ext.newPut
        have rF4 : F4 (nx' + 1) = some (.cells [.slice (some p') xl.length xc] 1 none false (some 26)) := by rw [hF4]; exact Heap.put_eq
        have hown4 : OwnOf encSX 1 26 F4 ob v3 (out.map (·.sv)) := own_sameX (fun b t e => xF4.2 b (by have := (hob b t e).2; omega)) hown3
        have hrow4 : RowsAt encSX 1 F4 (.slice (some ⟨nx' + 1, 0, none⟩) 1 1) [item.sv] := .inr ⟨_, 1, rfl, fun q hq => by
          have : q = 0 := by simpa using hq
          subst this
          simp [getc, rF4, his, encSX, slX]⟩
        rw [← hF4]
        clear hF4 hown3
        refine OpsL.appendO (enc := encSX) (sz := 1) (bytes := 24) (z := [.slice none 0 0]) (el := 26) (ob := ob) (zs := out.map (·.sv)) (us := [item.sv]) encSX_len encSX_one (by decide) (by subst_vars; decide) hown4 hrow4 (by (first | (simp only [ASt.ev, tmPut, ↓reduceIte, Nat.reduceEqDiff, *]; done))) (by (first | (simp only [ASt.ev, tmPut, ↓reduceIte, Nat.reduceEqDiff, *]; done))) (fun b t e => by have := (hob b t e).2; omega) (by exact rfl) (by exact rfl) (by exact rfl) (by exact rfl) (by exact rfl) rfl (by rw [List.length_map]; simp only [List.length_singleton] at hbd ⊢; omega) (by decide) ?_
        intro v5 n5 F5 ob5 hA
        have hx5 : Ext nx H n5 F5 := ⟨by have := hA.le; omega, fun q hq => by rw [hA.same q (by omega) (fun b t e => by have := (hob b t e).1; omega), xF4.2 q (by omega), hx3.2 q hq]⟩
        have hmap5 : F5 nx = some (.map (esX (out ++ [item])) (bs ++ [clk]) (clk + 1)) := by rw [hA.same nx (by omega) (fun b t e => by have := (hob b t e).1; omega), xF4.2 nx (by omega)]; exact hmap3
        have hown5 : OwnOf encSX 1 26 F5 ob5 v5 ((out ++ [item]).map (·.sv)) := by rw [List.map_append]; exact hA.own
        have hob5 : ∀ b t, ob5 = some (b, t) → nx + 1 ≤ b ∧ b < n5 := fun b t e => by
          obtain ⟨h1, h2⟩ := hA.blk b t e
          rcases h2 with rfl | ⟨t', e'⟩
          · omega
          · exact ⟨(hob b t' e').1, h1⟩
        have hout5 := hout.push (g := fun b => b ∈ (its.take i).flatMap (·.B) ∨ b ∈ (List.range (j + 1)).flatMap Bs) (ls' := nextL ((its.take i).map (·.l)) ++ kidsX (it.l.take (j + 1))) hri hndI (fun b hb => ⟨hfresh b hb, .inr (by rw [hjr, List.mem_append]; exact .inr (by rw [← hiB]; exact hb))⟩) (fun b hb => by rw [hjr, List.mem_append]; exact hb.elim Or.inl fun h => Or.inr (Or.inl h)) (by rw [hkt, hil, List.append_assoc]; rfl)
        have hle5 := hA.le
        clear hA hown4 hrow4 hmap3 hx3 xF4 rF4 c3
        repeat (first | (refine OpsL.q (by first | exact oasg | exact omv | exact oadd) ?_) | (refine Trip.ops ?_) | (refine OpsL.nil ?_; ((repeat (refine blockExit_normal ?_)); first | (change Trip _ _ _ _ _) | (dsimp only))))
        exact ⟨j + 1, ⟨_, _, _, out ++ [item], ob5, v5, bs ++ [clk], clk + 1, rfl, hx5, by omega, hown5, hob5, hmap5, hout5, by simp [tmPut, *], by simp [tmPut, *], by simp [tmPut, *], by simp [tmPut, *], by simp [tmPut, *], by simp [tmPut, *], by simp [tmPut, *], by simp [tmPut, *], by omega⟩, by omega⟩
    · have hj2 : j = it.l.length := by omega
      subst hj2
      rw [List.take_length] at hout
      have hsn : nextL ((its.take (i + 1)).map (·.l)) = nextL ((its.take i).map (·.l)) ++ kidsX it.l := by rw [htk, List.map_append]; exact nextL_snoc _ _
      repeat (first | (refine OpsL.q (by first | exact omv | exact oadd) ?_) | (refine Trip.ops ?_) | (refine Trip.exit ?_; ((repeat (first | refine blockExit_eq ?_ | refine blockExit_normal ?_)); change Trip _ _ _ _ _)) | (refine OpsL.nil ?_; (dsimp only)))
      exact ⟨i + 1, ⟨_, _, _, out, ob, v3, bs, clk, rfl, hx, hle, hown, hob, hmap, hout.weak (fun b hb => by
        rw [htk, List.flatMap_append, List.mem_append]
        rcases hb with hb | hb
        · exact .inl hb
        · exact .inr (by simp only [List.flatMap_cons, List.flatMap_nil, List.append_nil]; rw [hB]; exact List.mem_cons_of_mem _ hb)) hsn, by simp [tmPut, *], by simp [tmPut, *], by simp [tmPut, *], by simp [tmPut, *], by simp [tmPut, *], by omega⟩, by omega⟩
  · have hi2 : i = its.length := by omega
    subst hi2
    rw [List.take_length] at hout
    repeat (first | (refine OpsL.q (by first | exact oasg | exact omv) ?_) | (refine Trip.seq ?_) | (refine Trip.ops ?_) | (refine Trip.exit ?_; ((repeat (refine blockExit_eq ?_)); change Trip _ _ _ _ _)) | (refine Trip.ret ?_; (dsimp only)) | (refine OpsL.nil ?_; (change Trip _ _ _ _ _)))
    refine ⟨.inr rfl, _, res_tmp, hx, out, ⟨?_, fun o ho => ?_, hout.nd⟩, hout.ls, hout.sub⟩
    · have := hown.at encSX_len
      simpa [tmPut, e3] using this
    · obtain ⟨p, c, h1, h2, h3⟩ := hout.each o ho
      exact ⟨p, c, h1, h2, h3.ext hx hok⟩
end Go.Proofs.YtmijhkclfoadaaaDoor
namespace Go.Proofs.YtmijhkclfoadaaaDoor
set_option linter.unusedSimpArgs false
set_option linter.unusedVariables false
open Go.Am Go.RowKit
attribute [local irreducible] aop OpsL Trip blockExit OpsD OpsK OpsR
theorem entersDeepX : Am.Enters Tryd.prog 68 := ⟨Tryd.f68, Tryd.func68, by kernel_rfl, by kernel_rfl⟩
set_option maxRecDepth 20000 in
set_option maxHeartbeats 8000000 in
theorem deepXC (W0 : World) {x : Ex} {nx : Nat} {H : Heap} {cs : List Value} {B : List Nat} (hx : ExC H cs x B) (hB : B.Nodup) (hn : sizeX x ≤ 1000000) : ACalls Tryd.prog W0 68 [.agg cs.toArray] nx H fun v nx' H' => v = .bool (decide (20 < deepX x)) ∧ Ext nx H nx' H' := by
  obtain ⟨k, s, e, l⟩ := x
  obtain ⟨av, c, rfl⟩ := hx.cells
  refine ACalls.by_trip (fn := Tryd.f68) (c := _) Tryd.func68 rfl (fun tm n hn0 htm => ?_)
  have e0 : tm 0 = .agg ([.int .i64 k, .int .i64 s, .int .i64 e, .slice av l.length c] : List Value).toArray := htm 0
  clear htm
  replace hn0 : n = 15 := hn0
  refine Trip.ok fun hok => ?_
  replace hok : ∀ id o, H id = some o → id < nx := hok
  refine Trip.seq ?_
  refine Trip.ops ?_
  refine OpsL.boxX hok ?_ (by (first | (simp only [ASt.ev, tmPut, ↓reduceIte, Nat.reduceEqDiff, *]; rfl))) rfl (by subst_vars; decide)
  intro G x0 okG hb
  have hG := hx.ext x0 hok
  have h0 := hb.c0
  have h1 := hb.c1
  have h2 := hb.c2
  have h3 := hb.c3
  clear e0
  generalize Ex.node k s e l = x at *
  have hall := hb.all
  clear h0 h1 h2 h3
  repeat (first | (refine OpsL.q (by first | exact oasg | exact aop_loadAgg (k := 4) (by (first | (simp only [ASt.ev, tmPut, ↓reduceIte, Nat.reduceEqDiff, *]; rfl))) (by exact rfl) rfl (by exact rfl) (by assumption)) ?_) | (refine Trip.seq ?_) | (refine Trip.ops ?_) | (refine OpsL.nil ?_; (change Trip _ _ _ _ _)))
  refine OpsL.new (by subst_vars; decide) (aop_buildSlice (l := [(0, .agg #[.int .i64 k, .int .i64 s, .int .i64 e, .slice av l.length c])]) (r := (.slice (some ⟨nx + 1, 0, none⟩) 1 1, .new (.cells [.int .i64 k, .int .i64 s, .int .i64 e, .slice av l.length c] 4 none false (some 28)))) (by simp [evParts, ASt.ev, tmPut, plainC, plain1, *]) (by exact rfl)) ?_
  obtain ⟨G1, hG1⟩ : ∃ G1, G1 = G.put (nx + 1) (.cells [.int .i64 k, .int .i64 s, .int .i64 e, .slice av l.length c] 4 none false (some 28)) := ⟨_, rfl⟩
  have x1 : Ext (nx + 1) G (nx + 1 + 1) G1 := by rw [hG1]; exact Ext.newPut
  have r1 : G1 (nx + 1) = some (.cells [.int .i64 k, .int .i64 s, .int .i64 e, .slice av l.length c] 4 none false (some 28)) := by rw [hG1]; exact Heap.put_eq
  have ok1 : ∀ id o, G1 id = some o → id < nx + 1 + 1 := by rw [hG1]; exact ok_new okG
  rw [← hG1]
  clear hG1
  refine OpsL.new (by subst_vars; decide) (aop_buildSlice (l := [(0, .slice (some ⟨nx + 1, 0, none⟩) 1 1)]) (r := (.slice (some ⟨nx + 1 + 1, 0, none⟩) 1 1, .new (.cells [.slice (some ⟨nx + 1, 0, none⟩) 1 1] 1 none false (some 26)))) (by simp [evParts, ASt.ev, tmPut, plainC, plain1, *]) (by exact rfl)) ?_
  obtain ⟨G2, hG2⟩ : ∃ G2, G2 = G1.put (nx + 1 + 1) (.cells [.slice (some ⟨nx + 1, 0, none⟩) 1 1] 1 none false (some 26)) := ⟨_, rfl⟩
  have x2 : Ext (nx + 1 + 1) G1 (nx + 1 + 1 + 1) G2 := by rw [hG2]; exact Ext.newPut
  have r2 : G2 (nx + 1 + 1) = some (.cells [.slice (some ⟨nx + 1, 0, none⟩) 1 1] 1 none false (some 26)) := by rw [hG2]; exact Heap.put_eq
  rw [← hG2]
  clear hG2
  have hx2 := (hG.ext x1 okG).ext x2 ok1
  have r1' : G2 (nx + 1) = some (.cells [.int .i64 k, .int .i64 s, .int .i64 e, .slice av l.length c] 4 none false (some 28)) := by rw [x2.2 _ (by omega)]; exact r1
  have hlev : LevAt G2 (.slice (some ⟨nx + 1 + 1, 0, none⟩) 1 1) [⟨(some ⟨nx + 1, 0, none⟩, 1, 1), [x], (nx + 1) :: B⟩] := by
    refine ⟨.inr ⟨_, 1, rfl, fun q hq => ?_⟩, fun it hit => ?_, ?_⟩
    · have : q = 0 := by simpa using hq
      subst this
      simp [getc, r2, encSX, slX]
    · obtain rfl := List.mem_singleton.1 hit
      exact ⟨⟨nx + 1, 0, none⟩, 1, rfl, by simp, ExC.row1 (k := 0) (s := 0) (e := 0) (c := 1) r1' rfl hx2⟩
    · simp only [List.flatMap_cons, List.flatMap_nil, List.append_nil, List.nodup_cons]
      exact ⟨fun h => by have := hx.lt hok _ h; omega, hB⟩
  have x02 : Ext nx H (nx + 1 + 1 + 1) G2 := ⟨by omega, fun q hq => by rw [x2.2 q (by omega), x1.2 q (by omega), x0.2 q hq]⟩
  have hmass : massL [[x]] ≤ 1000000 := by simp [massL, sizeXL]; exact hn
  clear r1 r2 r1' hx2 x1 x2 ok1 hall
  repeat (first | (refine OpsL.q (by first | exact oasg | exact omv) ?_) | (refine Trip.seq ?_) | (refine Trip.ops ?_) | (refine Trip.block ?_) | (refine OpsL.nil ?_; (change Trip _ _ _ _ _)))
  refine Trip.inv (fun (i : Nat) st => ∃ (tm : Nat → Value) (nx' : Nat) (F : Heap) (its : List RowIt) (v3 : Value), st = ⟨tm, n, F, nx'⟩ ∧ Ext nx H nx' F ∧ LevAt F v3 its ∧ its.map (·.l) = nextN i [[x]] ∧ tm 3 = v3 ∧ tm 7 = .int .i64 i ∧ i ≤ 20) (fun i => 20 - i) 0 ?_ ?_
  · exact ⟨_, _, _, _, _, rfl, x02, hlev, rfl, by simp [tmPut], by simp [tmPut], by omega⟩
  clear hlev x02
  rintro i st ⟨tm, nx', F, its, v3, rfl, hxF, hlv, hit, e3, e7, hi⟩
  repeat (first | (refine OpsL.q (by exact olss) ?_) | (refine Trip.seq ?_) | (refine Trip.ops ?_) | (refine Trip.block ?_) | (refine Trip.itA (fun _ => ?_) (fun _ => ?_)) | (refine Trip.skip ?_; (change Trip _ _ _ _ _)) | (refine OpsL.nil ?_; (change Trip _ _ _ _ _)))
  · have hlt : i < 20 := by omega
    repeat (first | (refine OpsL.q (by exact omv) ?_))
    refine OpsL.c1 (hf := entersInsideX) (hc := (insideXC W0 hlv (by rw [hit]; exact Nat.le_trans (nextN_mass i _) hmass))) (h := ?_)
    rintro v4 n4 F4 ⟨x4, its4, hl4, hi4, _⟩
    have hs := nextN_succ i [[x]]
    rw [← hit, ← hi4] at hs
    repeat (first | (refine OpsL.q (by first | exact oasg | exact omv | exact oadd) ?_) | (refine Trip.ops ?_) | (refine OpsL.nil ?_; ((repeat (refine blockExit_normal ?_)); first | (change Trip _ _ _ _ _) | (dsimp only))))
    exact ⟨i + 1, ⟨_, _, _, its4, v4, rfl, hxF.trans x4, hl4, hs.symm, by simp [tmPut, *], by simp [tmPut, *], by omega⟩, by omega⟩
  · have hi2 : i = 20 := by omega
    subst hi2
    obtain ⟨la, lc, hv⟩ := hlv.rows.slice
    rw [List.length_map] at hv
    have hdl := deep_levels x 20
    rw [← hit] at hdl
    rw [hv] at e3
    clear hv hlv
    repeat (first | (refine OpsL.q (by first | exact omv | exact olen) ?_) | (refine Trip.seq ?_) | (refine Trip.ops ?_) | (refine Trip.exit ?_; ((repeat (refine blockExit_eq ?_)); change Trip _ _ _ _ _)))
    by_cases hd : 20 < deepX x
    · have hpos : 0 < its.length := by
        rcases its with _ | ⟨a, b⟩
        · exact absurd rfl (hdl.2 hd)
        · simp
      refine OpsL.gtrT ?_ (c := show (0 : Int) < (its.length : Nat) by omega)
      repeat (first | (refine OpsL.q (by exact oasg) ?_) | (refine Trip.ret ?_; (dsimp only)) | (refine OpsL.nil ?_; (change Trip _ _ _ _ _)))
      exact ⟨.inr rfl, _, res_tmp, by simp [tmPut, hd], hxF⟩
    · have hz : its.length = 0 := by
        rcases its with _ | ⟨a, b⟩
        · rfl
        · exact absurd (hdl.1 (by simp)) hd
      refine OpsL.gtrF ?_ (c := show ¬ (0 : Int) < (its.length : Nat) by omega)
      repeat (first | (refine OpsL.q (by exact oasg) ?_) | (refine Trip.ret ?_; (dsimp only)) | (refine OpsL.nil ?_; (change Trip _ _ _ _ _)))
      exact ⟨.inr rfl, _, res_tmp, by simp [tmPut, hd], hxF⟩
end Go.Proofs.YtmijhkclfoadaaaDoor

import Derived.Test.YtmijhkclfoadaaaDoorQEM23
import Derived.Test.YtmijhkclfoadaaaDoorQEM21
import Derived.Test.YtmijhkclfoadaaaDoorQEM33
namespace Go.Proofs.YtmijhkclfoadaaaDoor
set_option linter.unusedSimpArgs false
set_option linter.unusedVariables false
open Go.Am Go.RowKit
attribute [local irreducible] aop OpsL Trip blockExit OpsD OpsK OpsR
theorem nameX_4 {ss : List (ByteArray × Int)} {k s e : Int} (h3 : ¬ k = 3) (h4 : k = 4) : nameX ss k s e = (isX ss s 1 && isX ss e 2) := by
  unfold nameX
  simp [h3, h4]
theorem nameX_3 {ss : List (ByteArray × Int)} {k s e : Int} (h3 : k = 3) : nameX ss k s e = isX ss s 0 := by
  unfold nameX
  simp [h3]
theorem nameX_n {ss : List (ByteArray × Int)} {k s e : Int} (h3 : ¬ k = 3) (h4 : ¬ k = 4) : nameX ss k s e = true := by
  unfold nameX
  simp [h3, h4]
theorem entersRNamed : Am.Enters Tryd.prog 47 := ⟨Tryd.f47, Tryd.func47, by kernel_rfl, by kernel_rfl⟩
set_option maxRecDepth 20000 in
set_option maxHeartbeats 8000000 in
theorem rNamedC (W0 : World) {ss : List (ByteArray × Int)} (hss : ss.length ≤ 1000) : ∀ (x : Ex) {nx : Nat} {H : Heap} {lv : Value} {cs : List Value} {B : List Nat}, SymsAt H lv ss → ExC H cs x B → sizeX x ≤ 1000000 → ACalls Tryd.prog W0 47 [lv, .agg cs.toArray] nx H fun v nx' H' => v = .bool (namedX ss x) ∧ Ext nx H nx' H' := by
  refine Ex.ind fun k s e l ih => ?_
  intro nx H lv cs B hl hx hn
  obtain ⟨a, c, rfl⟩ := hx.cells
  simp only [sizeX] at hn
  have hlen := size_len l 1
  obtain ⟨la, lc, rfl, _⟩ := id hl
  refine ACalls.by_trip (fn := Tryd.f47) (c := _) Tryd.func47 rfl (fun tm n hn0 htm => ?_)
  have e0 : tm 0 = .slice (some la) ss.length lc := htm 0
  have e1 : tm 1 = .agg ([.int .i64 k, .int .i64 s, .int .i64 e, .slice a l.length c] : List Value).toArray := htm 1
  clear htm
  replace hn0 : n = 50 := hn0
  refine Trip.ok fun hok => ?_
  replace hok : ∀ id o, H id = some o → id < nx := hok
  refine Trip.seq ?_
  refine Trip.ops ?_
  refine OpsL.boxX hok ?_ (by (first | (simp only [ASt.ev, tmPut, ↓reduceIte, Nat.reduceEqDiff, *]; rfl))) rfl (by subst_vars; decide)
  intro G x0 okG hb
  have hG := hx.ext x0 hok
  have h0 := hb.c0
  have h1 := hb.c1
  have h2 := hb.c2
  have h3 := hb.c3
  clear e1
  have hlG := hl.ext x0 hok
  (first | (refine OpsL.q (by exact oasg) ?_))
  (first | (refine OpsL.nil ?_; (change Trip _ _ _ _ _)))
  refine Trip.seq ?_
  refine Trip.mono (Q := fun x st => (x = .ret ∧ ∃ tm' : Nat → Value, st = ⟨tm', n, G, nx + 1⟩ ∧ tm' 4 = .bool false ∧ nameX ss k s e = false) ∨ (x = .normal ∧ ∃ tm' : Nat → Value, st = ⟨tm', n, G, nx + 1⟩ ∧ tm' 0 = .slice (some la) ss.length lc ∧ tm' 3 = .pointer (some ⟨nx, 0, none⟩) ∧ nameX ss k s e = true)) ?_ ?_
  · repeat (first | (refine OpsL.q (by first | exact ofa | exact old) ?_) | (refine Trip.seq ?_) | (refine Trip.ops ?_))
    by_cases hk3 : k = 3
    · have hnm := nameX_3 (ss := ss) (s := s) (e := e) hk3
      have hk4 : ¬ k = 4 := by omega
      refine OpsL.eqlT ?_ (c := hk3)
      clear hk3
      repeat (first | (refine OpsL.q (by first | exact omv | exact ofa | exact old) ?_) | (refine OpsL.ung ?_))
      refine OpsL.c3 (hf := entersRIs) (hc := (rIsC W0 hlG hss s 0)) (h := ?_)
      rintro v1 nx1 H1 ⟨rfl, rfl, rfl⟩
      cases hi : isX ss s 0
      · rw [hi] at hnm
        clear hi
        repeat (first | (refine OpsL.q (by first | exact onot | exact omv | exact opkT) ?_) | (refine OpsL.nil ?_; (change Trip _ _ _ _ _)) | (refine OpsL.ung ?_) | (refine OpsL.skp ?_) | (refine OpsL.sku ?_))
        refine Trip.ifT ?_
        repeat (first | (refine OpsL.q (by exact oasg) ?_) | (refine Trip.seq ?_) | (refine Trip.ops ?_) | (refine Trip.ret ?_; (dsimp only)) | (refine OpsL.nil ?_; (change Trip _ _ _ _ _)))
        exact .inl ⟨rfl, _, rfl, by simp [tmPut], hnm⟩
      · rw [hi] at hnm
        clear hi
        repeat (first | (refine OpsL.q (by first | exact onot | exact omv | exact opkT | exact ofa | exact old) ?_) | (refine OpsL.ung ?_))
        refine OpsL.eqlF ?_ (c := hk4)
        clear hk4
        repeat (first | (refine OpsL.q (by first | exact omv | exact opkF) ?_) | (refine OpsL.nil ?_; (change Trip _ _ _ _ _)) | (refine OpsL.ung ?_) | (refine OpsL.skp ?_) | (refine OpsL.sku ?_))
        refine Trip.ifF ?_
        repeat (first | (refine Trip.skip ?_; (dsimp only)))
        exact .inr ⟨rfl, _, rfl, by simp [tmPut, *], by simp [tmPut, *], hnm⟩
    refine OpsL.eqlF ?_ (c := hk3)
    repeat (first | (refine OpsL.q (by first | exact omv | exact opkF | exact ofa | exact old) ?_) | (refine OpsL.ung ?_) | (refine OpsL.skp ?_))
    by_cases hk4 : k = 4
    · have hnm := nameX_4 (ss := ss) (s := s) (e := e) hk3 hk4
      refine OpsL.eqlT ?_ (c := hk4)
      clear hk3 hk4
      repeat (first | (refine OpsL.q (by first | exact omv | exact ofa | exact old) ?_) | (refine OpsL.ung ?_))
      refine OpsL.c3 (hf := entersRIs) (hc := (rIsC W0 hlG hss s 1)) (h := ?_)
      rintro v1 nx1 H1 ⟨rfl, rfl, rfl⟩
      cases hi : isX ss s 1
      · rw [hi, Bool.false_and] at hnm
        clear hi
        repeat (first | (refine OpsL.q (by first | exact onot | exact omv | exact opkT | exact opkF) ?_) | (refine OpsL.nil ?_; (change Trip _ _ _ _ _)) | (refine OpsL.ung ?_) | (refine OpsL.skp ?_))
        refine Trip.ifT ?_
        repeat (first | (refine OpsL.q (by exact oasg) ?_) | (refine Trip.seq ?_) | (refine Trip.ops ?_) | (refine Trip.ret ?_; (dsimp only)) | (refine OpsL.nil ?_; (change Trip _ _ _ _ _)))
        exact .inl ⟨rfl, _, rfl, by simp [tmPut], hnm⟩
      rw [hi, Bool.true_and] at hnm
      clear hi
      repeat (first | (refine OpsL.q (by first | exact onot | exact omv | exact ofa | exact old) ?_) | (refine OpsL.ung ?_))
      refine OpsL.c3 (hf := entersRIs) (hc := (rIsC W0 hlG hss e 2)) (h := ?_)
      rintro v1 nx1 H1 ⟨rfl, rfl, rfl⟩
      cases hi : isX ss e 2
      · rw [hi] at hnm
        clear hi
        repeat (first | (refine OpsL.q (by first | exact onot | exact opkT | exact opkF) ?_) | (refine OpsL.nil ?_; (change Trip _ _ _ _ _)) | (refine OpsL.ung ?_))
        refine Trip.ifT ?_
        repeat (first | (refine OpsL.q (by exact oasg) ?_) | (refine Trip.seq ?_) | (refine Trip.ops ?_) | (refine Trip.ret ?_; (dsimp only)) | (refine OpsL.nil ?_; (change Trip _ _ _ _ _)))
        exact .inl ⟨rfl, _, rfl, by simp [tmPut], hnm⟩
      rw [hi] at hnm
      clear hi
      repeat (first | (refine OpsL.q (by first | exact onot | exact opkT | exact opkF) ?_) | (refine OpsL.nil ?_; (change Trip _ _ _ _ _)) | (refine OpsL.ung ?_))
      refine Trip.ifF ?_
      repeat (first | (refine Trip.skip ?_; (dsimp only)))
      exact .inr ⟨rfl, _, rfl, by simp [tmPut, *], by simp [tmPut, *], hnm⟩
    have hnm := nameX_n (ss := ss) (s := s) (e := e) hk3 hk4
    refine OpsL.eqlF ?_ (c := hk4)
    clear hk3 hk4
    repeat (first | (refine OpsL.q (by first | exact omv | exact opkF) ?_) | (refine OpsL.nil ?_; (change Trip _ _ _ _ _)) | (refine OpsL.ung ?_) | (refine OpsL.skp ?_) | (refine OpsL.sku ?_))
    refine Trip.ifF ?_
    repeat (first | (refine Trip.skip ?_; (dsimp only)))
    exact .inr ⟨rfl, _, rfl, by simp [tmPut, *], by simp [tmPut, *], hnm⟩
  clear e0
  rintro x st (⟨rfl, tm, rfl, e4, hnm⟩ | ⟨rfl, tm, rfl, e0, e3, hnm⟩)
  · (dsimp only)
    exact ⟨.inr rfl, _, res_tmp, by simp [tmPut, *, namedX, namedXL_false], x0⟩
  (change Trip _ _ _ _ _)
  repeat (first | (refine OpsL.q (by exact oasg) ?_) | (refine Trip.seq ?_) | (refine Trip.ops ?_) | (refine Trip.block ?_) | (refine OpsL.nil ?_; (change Trip _ _ _ _ _)))
  refine Trip.inv (fun (i : Nat) st => ∃ (tm : Nat → Value) (nx' : Nat) (F : Heap), st = ⟨tm, n, F, nx'⟩ ∧ Ext (nx + 1) G nx' F ∧ tm 0 = .slice (some la) ss.length lc ∧ tm 3 = .pointer (some ⟨nx, 0, none⟩) ∧ tm 5 = .int .i64 i ∧ i ≤ l.length ∧ namedXL ss (l.take i) true = true) (fun i => l.length - i) 0 ?_ ?_
  · exact ⟨_, _, _, rfl, Ext.refl, by simp [tmPut, *], by simp [tmPut, *], by simp [tmPut, *], by omega, by simp [namedXL]⟩
  clear e0 e3
  rintro i st ⟨tm, nx', F, rfl, hxF, e0, e3, e5, hi, hall⟩
  refine Trip.ok fun okF => ?_
  replace okF : ∀ id o, F id = some o → id < nx' := okF
  have g3 := cell_ext hxF okG h3
  clear h0 h1 h2 h3
  repeat (first | (refine OpsL.q (by first | exact omv | exact ofa | exact old | exact olen | exact olss) ?_) | (refine Trip.seq ?_) | (refine Trip.ops ?_) | (refine Trip.block ?_) | (refine Trip.itA (fun _ => ?_) (fun _ => ?_)) | (refine Trip.skip ?_; (change Trip _ _ _ _ _)) | (refine OpsL.nil ?_; (change Trip _ _ _ _ _)))
  · have hlt : i < l.length := by omega
    obtain ⟨p, cs, B', rfl, hc, hx2, _⟩ := (hG.ext hxF okG).at rfl hlt
    have hsz := sizeXL_mem l 1 (List.getElem_mem hlt)
    repeat (first | (refine OpsL.q (by first | exact oixa | exact aop_loadAgg (k := 4) (by (first | (simp only [ASt.ev, tmPut, ↓reduceIte, Nat.reduceEqDiff, *]; rfl))) (by exact rfl) rfl (by exact rfl) (by assumption)) ?_))
    refine OpsL.c2 (hf := entersRNamed) (hc := (ih _ (List.getElem_mem hlt) (hlG.ext hxF okG) hx2 (by omega))) (h := ?_)
    rintro v2 n2 H2 ⟨rfl, y2⟩
    have hT := namedXL_take ss hlt true
    rw [hall, Bool.true_and] at hT
    cases hv : namedX ss l[i]
    · rw [hv] at hT
      have hr : namedX ss (.node k s e l) = false := by simp only [namedX]; rw [hnm]; exact namedXL_drop hT
      clear hv hT hall hnm
      repeat (first | (refine OpsL.q (by exact onot) ?_) | (refine OpsL.nil ?_; (change Trip _ _ _ _ _)))
      refine Trip.ifT ?_
      repeat (first | (refine OpsL.q (by exact oasg) ?_) | (refine Trip.seq ?_) | (refine Trip.ops ?_) | (refine Trip.ret ?_; ((repeat (refine blockExit_ret ?_)); dsimp only)) | (refine OpsL.nil ?_; (change Trip _ _ _ _ _)))
      exact ⟨.inr rfl, _, res_tmp, by simp [tmPut, *], (x0.trans hxF).trans y2⟩
    · rw [hv] at hT
      clear hv
      repeat (first | (refine OpsL.q (by exact onot) ?_) | (refine OpsL.nil ?_; (change Trip _ _ _ _ _)))
      refine Trip.ifF ?_
      repeat (first | (refine OpsL.q (by first | exact omv | exact oasg | exact oadd) ?_) | (refine Trip.ops ?_) | (refine Trip.skip ?_; ((repeat (refine blockExit_normal ?_)); change Trip _ _ _ _ _)) | (refine OpsL.nil ?_; (dsimp only)))
      exact ⟨i + 1, ⟨_, _, _, rfl, hxF.trans y2, by simp [tmPut, *], by simp [tmPut, *], by simp [tmPut, *], by omega, hT⟩, by omega⟩
  · have hi2 : i = l.length := by omega
    subst hi2
    rw [List.take_length] at hall
    have hr : namedX ss (.node k s e l) = true := by simp only [namedX]; rw [hnm]; exact hall
    clear hall hnm
    repeat (first | (refine OpsL.q (by exact oasg) ?_) | (refine Trip.seq ?_) | (refine Trip.ops ?_) | (refine Trip.exit ?_; ((repeat (refine blockExit_eq ?_)); change Trip _ _ _ _ _)) | (refine Trip.ret ?_; (dsimp only)) | (refine OpsL.nil ?_; (change Trip _ _ _ _ _)))
    exact ⟨.inr rfl, _, res_tmp, by simp [tmPut, *], x0.trans hxF⟩
end Go.Proofs.YtmijhkclfoadaaaDoor
namespace Go.Proofs.YtmijhkclfoadaaaDoor
set_option linter.unusedSimpArgs false
set_option linter.unusedVariables false
open Go.Am Go.RowKit
attribute [local irreducible] aop OpsL Trip blockExit OpsD OpsK OpsR
theorem namedXL_mem {ss : List (ByteArray × Int)} : ∀ {l : List Ex} {b : Bool}, namedXL ss l b = true → b = true ∧ ∀ x ∈ l, namedX ss x = true
  | [], b, h => ⟨by simpa [namedXL] using h, fun x hx => by cases hx⟩
  | y :: l, b, h => by
    simp only [namedXL] at h
    obtain ⟨h1, h2⟩ := namedXL_mem h
    rw [Bool.and_eq_true] at h1
    exact ⟨h1.1, fun x hx => by
      rcases List.mem_cons.1 hx with rfl | hx
      · exact h1.2
      · exact h2 x hx⟩
theorem isX_lt {ss : List (ByteArray × Int)} {s k : Int} (h : isX ss s k = true) : 0 ≤ s ∧ s < ss.length := by
  unfold isX at h
  rw [Bool.and_eq_true] at h
  exact of_decide_eq_true h.1
def hereX (ss : List (ByteArray × Int)) (k s : Int) (b : Bool) : Bool := decide (k = 3) && b && !decide (kindX ss s = 3)
theorem entersRLoose : Am.Enters Tryd.prog 48 := ⟨Tryd.f48, Tryd.func48, by kernel_rfl, by kernel_rfl⟩
set_option maxRecDepth 20000 in
set_option maxHeartbeats 8000000 in
theorem rLooseC (W0 : World) {ss : List (ByteArray × Int)} (hss : ss.length ≤ 1000) : ∀ (x : Ex) (b : Bool) {nx : Nat} {H : Heap} {lv : Value} {cs : List Value} {B : List Nat}, SymsAt H lv ss → ExC H cs x B → sizeX x ≤ 1000000 → namedX ss x = true → ACalls Tryd.prog W0 48 [lv, .agg cs.toArray, .bool b] nx H fun v nx' H' => v = .bool (looseX ss x b) ∧ Ext nx H nx' H' := by
  refine Ex.ind fun k s e l ih => ?_
  intro b nx H lv cs B hl hx hn hnm
  obtain ⟨a, c, rfl⟩ := hx.cells
  simp only [sizeX] at hn
  have hlen := size_len l 1
  obtain ⟨la, lc, rfl, _⟩ := id hl
  simp only [namedX] at hnm
  obtain ⟨hnm, hnl⟩ := namedXL_mem hnm
  refine ACalls.by_trip (fn := Tryd.f48) (c := _) Tryd.func48 rfl (fun tm n hn0 htm => ?_)
  have e0 : tm 0 = .slice (some la) ss.length lc := htm 0
  have e1 : tm 1 = .agg ([.int .i64 k, .int .i64 s, .int .i64 e, .slice a l.length c] : List Value).toArray := htm 1
  have e2 : tm 2 = .bool b := htm 2
  clear htm
  replace hn0 : n = 43 := hn0
  refine Trip.ok fun hok => ?_
  replace hok : ∀ id o, H id = some o → id < nx := hok
  refine Trip.seq ?_
  refine Trip.ops ?_
  refine OpsL.boxX hok ?_ (by (first | (simp only [ASt.ev, tmPut, ↓reduceIte, Nat.reduceEqDiff, *]; rfl))) rfl (by subst_vars; decide)
  intro G x0 okG hb
  have hG := hx.ext x0 hok
  have h0 := hb.c0
  have h1 := hb.c1
  have h2 := hb.c2
  have h3 := hb.c3
  clear e1
  have hlG := hl.ext x0 hok
  (first | (refine OpsL.q (by exact oasg) ?_))
  (first | (refine OpsL.nil ?_; (change Trip _ _ _ _ _)))
  refine Trip.seq ?_
  refine Trip.mono (Q := fun x st => (x = .ret ∧ ∃ tm' : Nat → Value, st = ⟨tm', n, G, nx + 1⟩ ∧ tm' 6 = .bool true ∧ hereX ss k s b = true) ∨ (x = .normal ∧ ∃ tm' : Nat → Value, st = ⟨tm', n, G, nx + 1⟩ ∧ tm' 0 = .slice (some la) ss.length lc ∧ tm' 2 = .bool b ∧ tm' 4 = .pointer (some ⟨nx, 0, none⟩) ∧ hereX ss k s b = false)) ?_ ?_
  · repeat (first | (refine OpsL.q (by first | exact ofa | exact old) ?_) | (refine Trip.seq ?_) | (refine Trip.ops ?_))
    by_cases hk3 : k = 3
    · have hin := isX_lt (show isX ss s 0 = true by rw [← nameX_3 (e := e) hk3]; exact hnm)
      have hc := hlG.kind hin.1 hin.2
      have hh : hereX ss k s b = (b && !decide (kindX ss s = 3)) := by unfold hereX; simp [hk3]
      refine OpsL.eqlT ?_ (c := hk3)
      clear hk3 hnm
      generalize kindX ss s = w at hc hh
      cases b with
      | false =>
        rw [Bool.false_and] at hh
        repeat (first | (refine OpsL.q (by first | exact omv | exact opkT | exact opkF) ?_) | (refine OpsL.nil ?_; (change Trip _ _ _ _ _)) | (refine OpsL.ung ?_) | (refine OpsL.skp ?_))
        refine Trip.ifF ?_
        repeat (first | (refine Trip.skip ?_; (dsimp only)))
        exact .inr ⟨rfl, _, rfl, by simp [tmPut, *], by simp [tmPut, *], by simp [tmPut, *], hh⟩
      | true =>
        rw [Bool.true_and] at hh
        repeat (first | (refine OpsL.q (by first | exact omv | exact opkT | exact ofa | exact old | exact oixa) ?_) | (refine OpsL.ung ?_))
        by_cases hw : w = 3
        · rw [decide_eq_true hw] at hh
          refine OpsL.neqF ?_ (c := hw)
          clear hw
          repeat (first | (refine OpsL.q (by exact opkT) ?_) | (refine OpsL.nil ?_; (change Trip _ _ _ _ _)))
          refine Trip.ifF ?_
          repeat (first | (refine Trip.skip ?_; (dsimp only)))
          exact .inr ⟨rfl, _, rfl, by simp [tmPut, *], by simp [tmPut, *], by simp [tmPut, *], hh⟩
        · rw [decide_eq_false hw] at hh
          refine OpsL.neqT ?_ (c := hw)
          clear hw
          repeat (first | (refine OpsL.q (by exact opkT) ?_) | (refine OpsL.nil ?_; (change Trip _ _ _ _ _)))
          refine Trip.ifT ?_
          repeat (first | (refine OpsL.q (by exact oasg) ?_) | (refine Trip.seq ?_) | (refine Trip.ops ?_) | (refine Trip.ret ?_; (dsimp only)) | (refine OpsL.nil ?_; (change Trip _ _ _ _ _)))
          exact .inl ⟨rfl, _, rfl, by simp [tmPut, *], hh⟩
    have hh : hereX ss k s b = false := by unfold hereX; simp [hk3]
    refine OpsL.eqlF ?_ (c := hk3)
    clear hk3
    repeat (first | (refine OpsL.q (by first | exact omv | exact opkF) ?_) | (refine OpsL.nil ?_; (change Trip _ _ _ _ _)) | (refine OpsL.skp ?_))
    refine Trip.ifF ?_
    repeat (first | (refine Trip.skip ?_; (dsimp only)))
    exact .inr ⟨rfl, _, rfl, by simp [tmPut, *], by simp [tmPut, *], by simp [tmPut, *], hh⟩
  clear e0 e2
  have hlx : looseX ss (.node k s e l) b = looseXL ss l (hereX ss k s b) (b || decide (k = 4)) := by simp only [looseX]; rfl
  rintro x st (⟨rfl, tm, rfl, e6, hh⟩ | ⟨rfl, tm, rfl, e0, e2, e4, hh⟩)
  · (dsimp only)
    rw [hh, looseXL_true] at hlx
    exact ⟨.inr rfl, _, res_tmp, by simp [tmPut, *], x0⟩
  rw [hh] at hlx
  clear hh
  (change Trip _ _ _ _ _)
  repeat (first | (refine OpsL.q (by exact oasg) ?_) | (refine Trip.seq ?_) | (refine Trip.ops ?_) | (refine Trip.block ?_) | (refine OpsL.nil ?_; (change Trip _ _ _ _ _)))
  refine Trip.inv (fun (i : Nat) st => ∃ (tm : Nat → Value) (nx' : Nat) (F : Heap), st = ⟨tm, n, F, nx'⟩ ∧ Ext (nx + 1) G nx' F ∧ tm 0 = .slice (some la) ss.length lc ∧ tm 2 = .bool b ∧ tm 4 = .pointer (some ⟨nx, 0, none⟩) ∧ tm 7 = .int .i64 i ∧ i ≤ l.length ∧ looseXL ss (l.take i) false (b || decide (k = 4)) = false) (fun i => l.length - i) 0 ?_ ?_
  · exact ⟨_, _, _, rfl, Ext.refl, by simp [tmPut, *], by simp [tmPut, *], by simp [tmPut, *], by simp [tmPut, *], by omega, by simp [looseXL]⟩
  clear e0 e2 e4
  rintro i st ⟨tm, nx', F, rfl, hxF, e0, e2, e4, e7, hi, hall⟩
  refine Trip.ok fun okF => ?_
  replace okF : ∀ id o, F id = some o → id < nx' := okF
  have g3 := cell_ext hxF okG h3
  have g0 := cell_ext hxF okG h0
  repeat (first | (refine OpsL.q (by first | exact omv | exact ofa | exact old | exact olen | exact olss) ?_) | (refine Trip.seq ?_) | (refine Trip.ops ?_) | (refine Trip.block ?_) | (refine Trip.itA (fun _ => ?_) (fun _ => ?_)) | (refine Trip.skip ?_; (change Trip _ _ _ _ _)) | (refine OpsL.nil ?_; (change Trip _ _ _ _ _)))
  · have hlt : i < l.length := by omega
    obtain ⟨p, cs, B', rfl, hc, hx2, _⟩ := (hG.ext hxF okG).at rfl hlt
    have hsz := sizeXL_mem l 1 (List.getElem_mem hlt)
    clear h0 h1 h2 h3
    refine Trip.mono (Q := fun x st => x = .normal ∧ ∃ (tm' : Nat → Value) (n2 : Nat) (H2 : Heap), st = ⟨tm', n, H2, n2⟩ ∧ Ext (nx + 1) G n2 H2 ∧ tm' 0 = .slice (some la) ss.length lc ∧ tm' 2 = .bool b ∧ tm' 4 = .pointer (some ⟨nx, 0, none⟩) ∧ tm' 7 = .int .i64 i ∧ tm' 42 = .bool (looseX ss l[i] (b || decide (k = 4)))) ?_ ?_
    · cases b with
      | true =>
        simp only [Bool.true_or]
        refine OpsR.drawn [12] (K := fun _ _ => True) mixedX (by kernel_rfl) (by kernel_rfl) [0, 1, 2, 3, 4, 5, 6, 7, 8, 9, 10, 11, 12] (by kernel_rfl) trivial ?_
        refine OpsR.one rfl rfl rfl (by kernel_rfl) ?_
        repeat (first | (refine OpsL.q (by exact omv) ?_) | (refine OpsL.nil ?_; (skip)))
        refine OpsR.one rfl rfl rfl (by kernel_rfl) ?_
        repeat (first | (refine OpsL.q (by exact ofa) ?_) | (refine OpsL.nil ?_; (dsimp only)))
        refine OpsR.one rfl rfl rfl (by kernel_rfl) ?_
        repeat (first | (refine OpsL.q (by exact old) ?_) | (refine OpsL.nil ?_; (skip)))
        refine OpsR.one rfl rfl rfl (by kernel_rfl) ?_
        repeat (first | (refine OpsL.q (by exact omv) ?_) | (refine OpsL.nil ?_; (skip)))
        refine OpsR.one rfl rfl rfl (by kernel_rfl) ?_
        repeat (first | (refine OpsL.q (by exact oixa) ?_) | (refine OpsL.nil ?_; (dsimp only)))
        refine OpsR.one rfl rfl rfl (by kernel_rfl) ?_
        repeat (first | (refine OpsL.q (by exact aop_loadAgg (k := 4) (by (first | (simp only [ASt.ev, tmPut, ↓reduceIte, Nat.reduceEqDiff, *]; rfl))) (by exact rfl) rfl (by exact rfl) (by assumption)) ?_) | (refine OpsL.nil ?_; (skip)))
        refine OpsR.one rfl rfl rfl (by kernel_rfl) ?_
        repeat (first | (refine OpsL.q (by exact omv) ?_) | (refine OpsL.nil ?_; (skip)))
        refine OpsR.one rfl rfl rfl (by kernel_rfl) ?_
        repeat (first | (refine OpsL.q (by exact omv) ?_) | (refine OpsL.nil ?_; (skip)))
        refine OpsR.one rfl rfl rfl (by kernel_rfl) ?_
        repeat (first | (refine OpsL.nil ?_; (skip)) | (refine OpsL.skp ?_))
        refine OpsR.one rfl rfl rfl (by kernel_rfl) ?_
        repeat (first | (refine OpsL.nil ?_; (skip)) | (refine OpsL.skp ?_))
        refine OpsR.one rfl rfl rfl (by kernel_rfl) ?_
        repeat (first | (refine OpsL.nil ?_; (skip)) | (refine OpsL.skp ?_))
        refine OpsR.one rfl rfl rfl (by kernel_rfl) ?_
        repeat (first | (refine OpsL.q (by exact opkT) ?_) | (refine OpsL.nil ?_; (skip)))
        refine OpsR.act (by kernel_rfl) (ActStep.walk rfl rfl ?_)
        refine OpsL.c3 (hf := entersRLoose) (hc := (ih _ (List.getElem_mem hlt) true (hlG.ext hxF okG) hx2 (by omega) (hnl _ (List.getElem_mem hlt)))) (h := ?_)
        rintro v2 n2 H2 ⟨rfl, y2⟩
        refine OpsL.nil ⟨trivial, ?_⟩
        refine OpsR.nil ?_
        exact ⟨rfl, _, _, _, rfl, hxF.trans y2, by simp [tmPut, *], by simp [tmPut, *], by simp [tmPut, *], by simp [tmPut, *], by simp [tmPut, *]⟩
      | false =>
        simp only [Bool.false_or]
        by_cases hk4 : k = 4
        · rw [decide_eq_true hk4]
          refine OpsR.drawn [12] (K := fun _ _ => True) mixedX (by kernel_rfl) (by kernel_rfl) [0, 1, 2, 3, 4, 5, 6, 7, 8, 9, 10, 11, 12] (by kernel_rfl) trivial ?_
          refine OpsR.one rfl rfl rfl (by kernel_rfl) ?_
          repeat (first | (refine OpsL.q (by exact omv) ?_) | (refine OpsL.nil ?_; (skip)))
          refine OpsR.one rfl rfl rfl (by kernel_rfl) ?_
          repeat (first | (refine OpsL.q (by exact ofa) ?_) | (refine OpsL.nil ?_; (dsimp only)))
          refine OpsR.one rfl rfl rfl (by kernel_rfl) ?_
          repeat (first | (refine OpsL.q (by exact old) ?_) | (refine OpsL.nil ?_; (skip)))
          refine OpsR.one rfl rfl rfl (by kernel_rfl) ?_
          repeat (first | (refine OpsL.q (by exact omv) ?_) | (refine OpsL.nil ?_; (skip)))
          refine OpsR.one rfl rfl rfl (by kernel_rfl) ?_
          repeat (first | (refine OpsL.q (by exact oixa) ?_) | (refine OpsL.nil ?_; (dsimp only)))
          refine OpsR.one rfl rfl rfl (by kernel_rfl) ?_
          repeat (first | (refine OpsL.q (by exact aop_loadAgg (k := 4) (by (first | (simp only [ASt.ev, tmPut, ↓reduceIte, Nat.reduceEqDiff, *]; rfl))) (by exact rfl) rfl (by exact rfl) (by assumption)) ?_) | (refine OpsL.nil ?_; (skip)))
          refine OpsR.one rfl rfl rfl (by kernel_rfl) ?_
          repeat (first | (refine OpsL.q (by exact omv) ?_) | (refine OpsL.nil ?_; (skip)))
          refine OpsR.one rfl rfl rfl (by kernel_rfl) ?_
          repeat (first | (refine OpsL.q (by exact omv) ?_) | (refine OpsL.nil ?_; (skip)))
          refine OpsR.one rfl rfl rfl (by kernel_rfl) ?_
          repeat (first | (refine OpsL.q (by exact ofa) ?_) | (refine OpsL.nil ?_; (dsimp only)) | (refine OpsL.ung ?_))
          refine OpsR.one rfl rfl rfl (by kernel_rfl) ?_
          repeat (first | (refine OpsL.q (by exact old) ?_) | (refine OpsL.nil ?_; (skip)) | (refine OpsL.ung ?_))
          refine OpsR.one rfl rfl rfl (by kernel_rfl) ?_
          refine OpsL.ung ?_
          refine OpsL.eqlT ?_ (c := hk4)
          refine OpsL.nil ?_
          refine OpsR.one rfl rfl rfl (by kernel_rfl) ?_
          repeat (first | (refine OpsL.q (by exact opkF) ?_) | (refine OpsL.nil ?_; (skip)))
          refine OpsR.act (by kernel_rfl) (ActStep.walk rfl rfl ?_)
          refine OpsL.c3 (hf := entersRLoose) (hc := (ih _ (List.getElem_mem hlt) true (hlG.ext hxF okG) hx2 (by omega) (hnl _ (List.getElem_mem hlt)))) (h := ?_)
          rintro v2 n2 H2 ⟨rfl, y2⟩
          refine OpsL.nil ⟨trivial, ?_⟩
          refine OpsR.nil ?_
          exact ⟨rfl, _, _, _, rfl, hxF.trans y2, by simp [tmPut, *], by simp [tmPut, *], by simp [tmPut, *], by simp [tmPut, *], by simp [tmPut, *]⟩
        · rw [decide_eq_false hk4]
          refine OpsR.drawn [12] (K := fun _ _ => True) mixedX (by kernel_rfl) (by kernel_rfl) [0, 1, 2, 3, 4, 5, 6, 7, 8, 9, 10, 11, 12] (by kernel_rfl) trivial ?_
          refine OpsR.one rfl rfl rfl (by kernel_rfl) ?_
          repeat (first | (refine OpsL.q (by exact omv) ?_) | (refine OpsL.nil ?_; (skip)))
          refine OpsR.one rfl rfl rfl (by kernel_rfl) ?_
          repeat (first | (refine OpsL.q (by exact ofa) ?_) | (refine OpsL.nil ?_; (dsimp only)))
          refine OpsR.one rfl rfl rfl (by kernel_rfl) ?_
          repeat (first | (refine OpsL.q (by exact old) ?_) | (refine OpsL.nil ?_; (skip)))
          refine OpsR.one rfl rfl rfl (by kernel_rfl) ?_
          repeat (first | (refine OpsL.q (by exact omv) ?_) | (refine OpsL.nil ?_; (skip)))
          refine OpsR.one rfl rfl rfl (by kernel_rfl) ?_
          repeat (first | (refine OpsL.q (by exact oixa) ?_) | (refine OpsL.nil ?_; (dsimp only)))
          refine OpsR.one rfl rfl rfl (by kernel_rfl) ?_
          repeat (first | (refine OpsL.q (by exact aop_loadAgg (k := 4) (by (first | (simp only [ASt.ev, tmPut, ↓reduceIte, Nat.reduceEqDiff, *]; rfl))) (by exact rfl) rfl (by exact rfl) (by assumption)) ?_) | (refine OpsL.nil ?_; (skip)))
          refine OpsR.one rfl rfl rfl (by kernel_rfl) ?_
          repeat (first | (refine OpsL.q (by exact omv) ?_) | (refine OpsL.nil ?_; (skip)))
          refine OpsR.one rfl rfl rfl (by kernel_rfl) ?_
          repeat (first | (refine OpsL.q (by exact omv) ?_) | (refine OpsL.nil ?_; (skip)))
          refine OpsR.one rfl rfl rfl (by kernel_rfl) ?_
          repeat (first | (refine OpsL.q (by exact ofa) ?_) | (refine OpsL.nil ?_; (dsimp only)) | (refine OpsL.ung ?_))
          refine OpsR.one rfl rfl rfl (by kernel_rfl) ?_
          repeat (first | (refine OpsL.q (by exact old) ?_) | (refine OpsL.nil ?_; (skip)) | (refine OpsL.ung ?_))
          refine OpsR.one rfl rfl rfl (by kernel_rfl) ?_
          refine OpsL.ung ?_
          refine OpsL.eqlF ?_ (c := hk4)
          refine OpsL.nil ?_
          refine OpsR.one rfl rfl rfl (by kernel_rfl) ?_
          repeat (first | (refine OpsL.q (by exact opkF) ?_) | (refine OpsL.nil ?_; (skip)))
          refine OpsR.act (by kernel_rfl) (ActStep.walk rfl rfl ?_)
          refine OpsL.c3 (hf := entersRLoose) (hc := (ih _ (List.getElem_mem hlt) false (hlG.ext hxF okG) hx2 (by omega) (hnl _ (List.getElem_mem hlt)))) (h := ?_)
          rintro v2 n2 H2 ⟨rfl, y2⟩
          refine OpsL.nil ⟨trivial, ?_⟩
          refine OpsR.nil ?_
          exact ⟨rfl, _, _, _, rfl, hxF.trans y2, by simp [tmPut, *], by simp [tmPut, *], by simp [tmPut, *], by simp [tmPut, *], by simp [tmPut, *]⟩
    clear e0 e2 e4 e7
    rintro x st ⟨rfl, tm, n2, H2, rfl, y2, e0, e2, e4, e7, e42⟩
    have hT := looseXL_take ss hlt false (b || decide (k = 4))
    rw [hall, Bool.false_or] at hT
    (change Trip _ _ _ _ _)
    cases hv : looseX ss l[i] (b || decide (k = 4))
    · rw [hv] at hT e42
      clear hv
      repeat fail
      refine Trip.ifF ?_
      repeat (first | (refine OpsL.q (by first | exact omv | exact oasg | exact oadd) ?_) | (refine Trip.ops ?_) | (refine Trip.skip ?_; ((repeat (refine blockExit_normal ?_)); change Trip _ _ _ _ _)) | (refine OpsL.nil ?_; (dsimp only)))
      exact ⟨i + 1, ⟨_, _, _, rfl, y2, by simp [tmPut, *], by simp [tmPut, *], by simp [tmPut, *], by simp [tmPut, *], by omega, hT⟩, by omega⟩
    · rw [hv] at hT e42
      have hr : looseX ss (.node k s e l) b = true := by rw [hlx]; exact looseXL_drop hT
      clear hv hT hall hlx
      repeat fail
      refine Trip.ifT ?_
      repeat (first | (refine OpsL.q (by exact oasg) ?_) | (refine Trip.seq ?_) | (refine Trip.ops ?_) | (refine Trip.ret ?_; ((repeat (refine blockExit_ret ?_)); dsimp only)) | (refine OpsL.nil ?_; (change Trip _ _ _ _ _)))
      exact ⟨.inr rfl, _, res_tmp, by simp [tmPut, *], x0.trans y2⟩
  · have hi2 : i = l.length := by omega
    subst hi2
    rw [List.take_length] at hall
    rw [hall] at hlx
    clear hall h0 h1 h2 h3
    repeat (first | (refine OpsL.q (by exact oasg) ?_) | (refine Trip.seq ?_) | (refine Trip.ops ?_) | (refine Trip.exit ?_; ((repeat (refine blockExit_eq ?_)); change Trip _ _ _ _ _)) | (refine Trip.ret ?_; (dsimp only)) | (refine OpsL.nil ?_; (change Trip _ _ _ _ _)))
    exact ⟨.inr rfl, _, res_tmp, by simp [tmPut, *], x0.trans hxF⟩
end Go.Proofs.YtmijhkclfoadaaaDoor
namespace Go.Am
set_option linter.unusedSimpArgs false
set_option linter.unusedVariables false
open Go.RowKit
theorem anyXL_eq (bad : Ex → Bool) : ∀ (l : List Ex) (b : Bool), anyXL bad l b = (b || l.any (anyX bad))
  | [], b => by simp [anyXL]
  | x :: l, b => by simp only [anyXL, List.any_cons]; rw [anyXL_eq bad l, Bool.or_assoc]
theorem looseXL_eq (ss : List (ByteArray × Int)) : ∀ (l : List Ex) (r n : Bool), looseXL ss l r n = (r || l.any fun x => looseX ss x n)
  | [], r, n => by simp [looseXL]
  | x :: l, r, n => by simp only [looseXL, List.any_cons]; rw [looseXL_eq ss l, Bool.or_assoc]
theorem namedXL_eq (ss : List (ByteArray × Int)) : ∀ (l : List Ex) (b : Bool), namedXL ss l b = (b && l.all (namedX ss))
  | [], b => by simp [namedXL]
  | x :: l, b => by simp only [namedXL, List.all_cons]; rw [namedXL_eq ss l, Bool.and_assoc]
theorem formXL_eq : ∀ (l : List Ex) (b : Bool), formXL l b = (b && l.all formX)
  | [], b => by simp [formXL]
  | x :: l, b => by simp only [formXL, List.all_cons]; rw [formXL_eq l, Bool.and_assoc]
def symbadX (ss : List (ByteArray × Int)) : Ex → Bool | .node k s _ _ => decide (k = 3) && !decide ((symX ss s).2 = 3)
def nestX (ss : List (ByteArray × Int)) : Ex → Bool | .node k _ _ l => decide (k = 4) && (match l with | x :: _ => anyX (symbadX ss) x | [] => false)
theorem formX_one {k s e : Int} {l : List Ex} (h : formX (.node k s e l) = true) (hk : k = 4) : ∃ y, l = [y] := by
  simp only [formX] at h
  rw [formXL_eq, Bool.and_eq_true] at h
  have h1 := h.1
  unfold shapeX at h1
  rw [if_neg (by omega), if_neg (by omega), if_pos hk] at h1
  have := of_decide_eq_true h1
  match l, this with
  | [y], _ => exact ⟨y, rfl⟩
theorem formX_kids {k s e : Int} {l : List Ex} (h : formX (.node k s e l) = true) : ∀ y ∈ l, formX y = true := by
  simp only [formX] at h
  rw [formXL_eq, Bool.and_eq_true] at h
  exact List.all_eq_true.1 h.2
theorem namedX_kids {ss : List (ByteArray × Int)} {k s e : Int} {l : List Ex} (h : namedX ss (.node k s e l) = true) : nameX ss k s e = true ∧ ∀ y ∈ l, namedX ss y = true := by
  simp only [namedX] at h
  rw [namedXL_eq, Bool.and_eq_true] at h
  exact ⟨h.1, List.all_eq_true.1 h.2⟩
theorem any_congr {l : List Ex} {f g : Ex → Bool} (h : ∀ y ∈ l, f y = g y) : l.any f = l.any g := by
  induction l with
  | nil => rfl
  | cons x l ih => rw [List.any_cons, List.any_cons, h x (List.mem_cons_self ..), ih fun y hy => h y (List.mem_cons_of_mem _ hy)]
theorem loose_in (ss : List (ByteArray × Int)) : ∀ x : Ex, namedX ss x = true → looseX ss x true = anyX (symbadX ss) x := Ex.ind fun k s e l ih h => by
  obtain ⟨h1, h2⟩ := namedX_kids h
  simp only [looseX, anyX, symbadX]
  rw [looseXL_eq, anyXL_eq, Bool.true_or, any_congr fun y hy => ih y hy (h2 y hy)]
  congr 1
  by_cases hk : k = 3
  · have hin : isX ss s 0 = true := by
      unfold nameX at h1
      simp [hk] at h1
      exact h1
    rw [isX_zero] at hin
    have hin := of_decide_eq_true hin
    have : kindX ss s = (symX ss s).2 := by
      unfold kindX symX
      rw [if_pos hin, List.getElem?_eq_getElem (by omega)]
      rfl
    rw [this, decide_eq_true hk, Bool.true_and, Bool.true_and]
  · rw [decide_eq_false hk, Bool.false_and, Bool.false_and, Bool.false_and]
theorem nest_sym (ss : List (ByteArray × Int)) : ∀ x : Ex, formX x = true → anyX (nestX ss) x = true → anyX (symbadX ss) x = true := Ex.ind fun k s e l ih hf h => by
  simp only [anyX] at h ⊢
  rw [anyXL_eq, Bool.or_eq_true] at h
  rw [anyXL_eq, Bool.or_eq_true]
  right
  rw [List.any_eq_true]
  rcases h with h | h
  · simp only [nestX, Bool.and_eq_true] at h
    obtain ⟨y, rfl⟩ := formX_one hf (of_decide_eq_true h.1)
    exact ⟨y, List.mem_singleton.2 rfl, h.2⟩
  · obtain ⟨y, hy, h⟩ := List.any_eq_true.1 h
    exact ⟨y, hy, ih y hy (formX_kids hf y hy) h⟩
theorem loose_any (ss : List (ByteArray × Int)) : ∀ x : Ex, namedX ss x = true → formX x = true → looseX ss x false = anyX (nestX ss) x := Ex.ind fun k s e l ih h hf => by
  obtain ⟨h1, h2⟩ := namedX_kids h
  simp only [looseX, anyX]
  rw [looseXL_eq, anyXL_eq, Bool.and_false, Bool.false_and, Bool.false_or, Bool.false_or]
  by_cases hk : k = 4
  · obtain ⟨y, rfl⟩ := formX_one hf hk
    have hy := h2 y (List.mem_singleton.2 rfl)
    have hfy := formX_kids hf y (List.mem_singleton.2 rfl)
    simp only [List.any_cons, List.any_nil, Bool.or_false, nestX]
    rw [decide_eq_true hk, Bool.true_and, loose_in ss y hy]
    cases hn : anyX (nestX ss) y
    · rw [Bool.or_false]
    · rw [nest_sym ss y hfy hn]; rfl
  · rw [decide_eq_false hk]
    have : nestX ss (.node k s e l) = false := by simp [nestX, hk]
    rw [this, Bool.false_or, any_congr fun y hy => ih y hy (h2 y hy) (formX_kids hf y hy)]
end Go.Am

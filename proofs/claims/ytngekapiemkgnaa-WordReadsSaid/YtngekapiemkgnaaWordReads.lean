/-
  The law WordReads of chapter 1 holds for all texts: any text is read, or refused at its place, as the document says.
-/
import Derived.Test.YtngekapiemkgnaaInts1
import Derived.ChangeMaps5
namespace Go.Proofs.Ytngekapiemkgnaa.wordReads
set_option linter.unusedSimpArgs false
set_option linter.unusedVariables false
open Go.Am Go.RowKit Go.ChangeShapes Go.WideShapes Go.ChangeAt
attribute [local irreducible] aop OpsL Trip blockExit OpsD OpsK

def cat (a b : ByteArray) : ByteArray := ⟨(a.data.toList ++ b.data.toList).toArray⟩
theorem bs_catD (a b : ByteArray) : bs (cat a b) = bs a ++ bs b := bs_cat a b
theorem cat_len {a b r : ByteArray} (h : cat a b = r) : (bs r).length = (bs a).length + (bs b).length := by rw [← h, bs_catD, List.length_append]
section
variable {P : Program} {H : Heap} {nx : Nat} {ev : Operand → Option Value} {dst : Option Tmp} {type : TypeId} {pos : String} {after : Array Edge} {guard : Option (Nat × Bool)}
theorem aop_cat {t u : TypeId} {x y : Operand} {a b r : ByteArray} (hx : ev x = some (.string a)) (hy : ev y = some (.string b)) (h : (bs a).length + (bs b).length ≤ 1000000000) (hr : cat a b = r) :
    aop P H nx ev ⟨dst, .binOp .add t x y u, type, pos, after, guard⟩ = some (.string r, .none) := by
  rw [← hr]
  exact aop_addS hx hy (by rw [← bs_length, ← bs_length]; exact h)
end

theorem aSlice_strTo {P : Program} {H : Heap} {ty : TypeId} {s : ByteArray} {t : Nat} (hu : P.underlying ty = some .string) (ht : t ≤ (bs s).length) : aSlice P H ty (.string s) none (some (.int .i64 t)) none = some (.string (esubstr s 0 t)) := by
  have := aSlice_str (P := P) (H := H) (ty := ty) (s := s) (f := 0) (t := t) hu (Nat.zero_le _) ht
  unfold aSlice at this ⊢
  exact this
theorem aSlice_strFrom {P : Program} {H : Heap} {ty : TypeId} {s : ByteArray} {f : Nat} (hu : P.underlying ty = some .string) (hf : f ≤ (bs s).length) : aSlice P H ty (.string s) (some (.int .i64 f)) none none = some (.string (esubstr s f (bs s).length)) := by
  have := aSlice_str (P := P) (H := H) (ty := ty) (s := s) (f := f) (t := (bs s).length) hu hf (Nat.le_refl _)
  have hsz : (bs s).length = s.size := by rw [bs_length]; rfl
  have hb : bounds s.size s.size (some (.int .i64 f)) none none = some (f, s.size, s.size) := by
    unfold bounds bound
    simp
    omega
  unfold aSlice
  simp only [hu, hb, hsz, Option.isSome_none, Bool.false_eq_true, if_false, Option.map_some]

section
variable {P : Program} {W0 : World} {ops : Array Oper} {K : Nat → Heap → Prop} {k d : Nat} {op : Op} {type : TypeId} {pos : String} {after : Array Edge} {l : List Oper} {tm : Nat → Value} {n nx : Nat} {H : Heap} {QQ : ASt → Prop}
theorem newK {o : AObj} {v : Value} (hd : d < n) (hk : edgeOkC ops k ⟨some d, op, type, pos, after, none⟩ = true) (hop : aop P H nx (ASt.ev ⟨tm, n, H, nx⟩) ⟨some d, op, type, pos, after, none⟩ = some (v, .new o)) (hx : K (nx + 1) (H.put nx o)) (h : OpsK P W0 ops K (k + 1) l ⟨tmPut tm (some d) v, n, H.put nx o, nx + 1⟩ QQ) :
    OpsK P W0 ops K k (⟨some d, op, type, pos, after, none⟩ :: l) ⟨tm, n, H, nx⟩ QQ := OpsK.eff (by simp [dstOk, hd]) rfl hk hop hx h
theorem callK3 {f : FuncId} {ts : Array TypeId} {c x y z : Operand} {a b e v : Value} {nx' : Nat} {H' : Heap} (hd : d < n) (hf' : ASt.ev ⟨tm, n, H, nx⟩ c = some (.func (.func f) #[] #[])) (hx : ASt.ev ⟨tm, n, H, nx⟩ x = some a) (hy : ASt.ev ⟨tm, n, H, nx⟩ y = some b) (hz : ASt.ev ⟨tm, n, H, nx⟩ z = some e) (hf : Enters P f) (hcall : ACalls P W0 f [a, b, e] nx H (fun v1 n1 H1 => v1 = v ∧ n1 = nx' ∧ H1 = H')) (he : K nx' H') (h : OpsK P W0 ops K (k + 1) l ⟨tmPut tm (some d) v, n, H', nx'⟩ QQ) :
    OpsK P W0 ops K k (⟨some d, .call ⟨.value c, #[x, y, z], ts⟩, type, pos, after, none⟩ :: l) ⟨tm, n, H, nx⟩ QQ :=
  OpsK.call (by simp [dstOk, hd]) rfl (by simp [callee, hf', evAll, hx, hy, hz]) hf hcall he h
end

theorem parseGo_len (ss : List (List Int × Int)) (l : List Int) : ∀ (n i : Nat) (w : List Int), (parseGo ss l n i w).1.length ≤ w.length + n := by
  intro n
  induction n with
  | zero => intro i w; simp [parseGo]
  | succ n ih =>
    intro i w
    simp only [parseGo]
    cases l[i]? with
    | none => simp
    | some b =>
      simp only
      split
      · have := ih (i + 1) w; omega
      · split
        · simp
        · split
          · simp
          · rename_i j _
            have := ih (i + (pieceF l i).length) (w ++ [(j : Int)])
            simp at this ⊢; omega
theorem parseF_len (ss : List (List Int × Int)) (l : List Int) : (parseF ss l).1.length ≤ l.length + 1 := by
  unfold parseF
  split
  · simp
  · have := parseGo_len ss l (l.length + 1) 0 []; simpa using this

set_option maxRecDepth 20000 in
set_option maxHeartbeats 600000 in
theorem law (W0 : World) {nx : Nat} {H : Heap} {m k y c : Int} {more raw : ByteArray} {nv : Value} {ns : List Int} (hn : IntsAt H nv ns) : ACalls Try.prog W0 4 [.int .i64 m, nv, .int .i64 k, .int .u8 y, .int .i64 c, .string more, .string raw] nx H fun v _ _ => v = .bool true := by
  obtain ⟨na, nc, rfl⟩ := hn.slice
  refine ACalls.by_trip (fn := Try.f4) (c := _) Try.func4 rfl (fun tm n hn0 htm => ?_)
  have e0 : tm 0 = .int .i64 m := htm 0
  have e1 : tm 1 = .slice na ns.length nc := htm 1
  have e2 : tm 2 = .int .i64 k := htm 2
  have e3 : tm 3 = .int .u8 y := htm 3
  have e4 : tm 4 = .int .i64 c := htm 4
  have e5 : tm 5 = .string more := htm 5
  have e6 : tm 6 = .string raw := htm 6
  clear htm
  replace hn0 : n = 116 := hn0
  refine Trip.ok fun hok => ?_
  replace hok : ∀ id o, H id = some o → id < nx := hok
  repeat (first | (refine OpsL.p (by subst_vars; decide) (by (first | (exact aop_assign (by (first | (simp only [ASt.ev, tmPut, ↓reduceIte, reduceIte, Nat.reduceEqDiff, plain1, *]; rfl) | fail))) | fail)) ?_) | (refine Trip.seq ?_) | (refine Trip.ops ?_) | (refine OpsL.nil ?_; ((repeat (first | refine blockExit_eq ?_ | refine blockExit_ne (by decide) ?_ | refine blockExit_normal ?_ | refine blockExit_ret ?_ | refine blockExit_goto ?_)); first | (change Trip _ _ _ _ _) | dsimp only | skip)) | fail)
  refine OpsL.call0 (by subst_vars; decide) entersKnown ((known_told W0).2 nx H) ?_
  rintro v nx0 H0 ⟨rfl, rfl, rfl⟩
  dsimp only
  repeat (first | (refine OpsL.p (by subst_vars; decide) (by (first | (exact aop_not (by (first | (simp only [ASt.ev, tmPut, ↓reduceIte, reduceIte, Nat.reduceEqDiff, plain1, *]; rfl) | fail))) | fail)) ?_) | (refine OpsL.nil ?_; ((repeat (first | refine blockExit_eq ?_ | refine blockExit_ne (by decide) ?_ | refine blockExit_normal ?_ | refine blockExit_ret ?_ | refine blockExit_goto ?_)); first | (change Trip _ _ _ _ _) | dsimp only | skip)) | fail)
  refine Trip.iteB (b := false) (by (first | (simp only [ASt.ev, tmPut, ↓reduceIte, reduceIte, Nat.reduceEqDiff, decide_true, decide_false, not_true_eq_false, not_false_eq_true, Bool.not_true, Bool.not_false, *]; done) | fail)) (fun h => absurd h (by decide)) (fun _ => ?_)
  repeat' (first | (refine OpsL.p (by subst_vars; decide) (by (first | (exact aop_move (by (first | (simp only [ASt.ev, tmPut, ↓reduceIte, reduceIte, Nat.reduceEqDiff, plain1, *]; rfl) | fail))) | (exact aop_assign (by (first | (simp only [ASt.ev, tmPut, ↓reduceIte, reduceIte, Nat.reduceEqDiff, plain1, *]; rfl) | fail))) | (exact aop_gtr (by (first | (simp only [ASt.ev, tmPut, ↓reduceIte, reduceIte, Nat.reduceEqDiff, plain1, *]; rfl) | fail)) (by (first | (simp only [ASt.ev, tmPut, ↓reduceIte, reduceIte, Nat.reduceEqDiff, plain1, *]; rfl) | fail))) | (exact aop_lenB (by (first | (simp only [ASt.ev, tmPut, ↓reduceIte, reduceIte, Nat.reduceEqDiff, plain1, *]; rfl) | fail)) (by exact rfl)) | (exact aop_pickT (by (first | (simp only [ASt.ev, tmPut, ↓reduceIte, reduceIte, Nat.reduceEqDiff, decide_true, decide_false, not_true_eq_false, not_false_eq_true, Bool.not_true, Bool.not_false, *]; done) | fail)) (by (first | (simp only [ASt.ev, tmPut, ↓reduceIte, reduceIte, Nat.reduceEqDiff, plain1, *]; rfl) | fail))) | (exact aop_pickF (by (first | (simp only [ASt.ev, tmPut, ↓reduceIte, reduceIte, Nat.reduceEqDiff, decide_true, decide_false, not_true_eq_false, not_false_eq_true, Bool.not_true, Bool.not_false, *]; done) | fail)) (by (first | (simp only [ASt.ev, tmPut, ↓reduceIte, reduceIte, Nat.reduceEqDiff, plain1, *]; rfl) | fail))) | fail)) ?_) | (refine Trip.seq ?_) | (refine Trip.ops ?_) | (refine Trip.ite (by (first | (simp only [ASt.ev, tmPut, ↓reduceIte, reduceIte, Nat.reduceEqDiff, plain1, *]; rfl) | fail)) (fun _ => ?_) (fun _ => ?_)) | (refine Trip.skip ?_; ((repeat (first | refine blockExit_eq ?_ | refine blockExit_ne (by decide) ?_ | refine blockExit_normal ?_ | refine blockExit_ret ?_ | refine blockExit_goto ?_)); first | (change Trip _ _ _ _ _) | dsimp only | skip)) | (refine Trip.ret ?_; ((repeat (first | refine blockExit_eq ?_ | refine blockExit_ne (by decide) ?_ | refine blockExit_normal ?_ | refine blockExit_ret ?_ | refine blockExit_goto ?_)); first | (change Trip _ _ _ _ _) | dsimp only | skip)) | (refine OpsL.nil ?_; ((repeat (first | refine blockExit_eq ?_ | refine blockExit_ne (by decide) ?_ | refine blockExit_normal ?_ | refine blockExit_ret ?_ | refine blockExit_goto ?_)); first | (change Trip _ _ _ _ _) | dsimp only | skip)) | (refine OpsL.unguard (by exact rfl) (by (first | (simp only [ASt.ev, tmPut, ↓reduceIte, reduceIte, Nat.reduceEqDiff, decide_true, decide_false, not_true_eq_false, not_false_eq_true, Bool.not_true, Bool.not_false, *]; done) | fail)) ?_) | (refine OpsL.skipped (by exact rfl) (by (first | (simp only [ASt.ev, tmPut, ↓reduceIte, reduceIte, Nat.reduceEqDiff, decide_true, decide_false, not_true_eq_false, not_false_eq_true, Bool.not_true, Bool.not_false, *]; done) | fail)) (by subst_vars; decide) ?_) | (refine OpsL.guardF (by exact rfl) (by (first | (simp only [ASt.ev, tmPut, ↓reduceIte, reduceIte, Nat.reduceEqDiff, plain1, *]; rfl) | fail)) (by subst_vars; decide) (fun _ => ?_) (fun _ => ?_)) | fail)
  case refine_1.refine_1 => exact ⟨.inr rfl, _, res_tmp, by simp [tmPut]⟩
  case refine_2 =>
    refine Trip.iteB (b := true) (by (first | (simp only [ASt.ev, tmPut, ↓reduceIte, reduceIte, Nat.reduceEqDiff, decide_true, decide_false, not_true_eq_false, not_false_eq_true, Bool.not_true, Bool.not_false, *]; done) | fail)) (fun _ => ?_) (fun h => absurd h (by decide))
    repeat (first | (refine OpsL.p (by subst_vars; decide) (by (first | (exact aop_assign (by (first | (simp only [ASt.ev, tmPut, ↓reduceIte, reduceIte, Nat.reduceEqDiff, plain1, *]; rfl) | fail))) | fail)) ?_) | (refine Trip.seq ?_) | (refine Trip.ops ?_) | (refine Trip.ret ?_; ((repeat (first | refine blockExit_eq ?_ | refine blockExit_ne (by decide) ?_ | refine blockExit_normal ?_ | refine blockExit_ret ?_ | refine blockExit_goto ?_)); first | (change Trip _ _ _ _ _) | dsimp only | skip)) | (refine OpsL.nil ?_; ((repeat (first | refine blockExit_eq ?_ | refine blockExit_ne (by decide) ?_ | refine blockExit_normal ?_ | refine blockExit_ret ?_ | refine blockExit_goto ?_)); first | (change Trip _ _ _ _ _) | dsimp only | skip)) | fail)
    exact ⟨.inr rfl, _, res_tmp, by simp [tmPut]⟩
  rename_i hm hr
  refine OpsL.call2 (by subst_vars; decide) (by (first | (simp only [ASt.ev, tmPut, ↓reduceIte, reduceIte, Nat.reduceEqDiff, plain1, *]; rfl) | fail)) (by (first | (simp only [ASt.ev, tmPut, ↓reduceIte, reduceIte, Nat.reduceEqDiff, plain1, *]; done) | fail)) entersSyms (symsC W0 hn).ok ?_
  rintro lv nx1 H1 ⟨⟨hl, hx1⟩, hok1⟩
  obtain ⟨g1, g2, g3⟩ := symsF_good m ns
  have g4 := symsF_names m ns
  generalize symsF m ns = ss at *
  have hn1 := hn.ext hx1 hok
  repeat (first | (refine OpsL.p (by subst_vars; decide) (by (first | (exact aop_move (by (first | (simp only [ASt.ev, tmPut, ↓reduceIte, reduceIte, Nat.reduceEqDiff, plain1, *]; rfl) | fail))) | (exact aop_assign (by (first | (simp only [ASt.ev, tmPut, ↓reduceIte, reduceIte, Nat.reduceEqDiff, plain1, *]; rfl) | fail))) | fail)) ?_) | (refine Trip.seq ?_) | (refine Trip.ops ?_) | (refine OpsL.nil ?_; ((repeat (first | refine blockExit_eq ?_ | refine blockExit_ne (by decide) ?_ | refine blockExit_normal ?_ | refine blockExit_ret ?_ | refine blockExit_goto ?_)); first | (change Trip _ _ _ _ _) | dsimp only | skip)) | fail)
  refine OpsL.call3 (by subst_vars; decide) (by (first | (simp only [ASt.ev, tmPut, ↓reduceIte, reduceIte, Nat.reduceEqDiff, plain1, *]; done) | fail)) (by (first | (simp only [ASt.ev, tmPut, ↓reduceIte, reduceIte, Nat.reduceEqDiff, plain1, *]; done) | fail)) (by (first | (simp only [ASt.ev, tmPut, ↓reduceIte, reduceIte, Nat.reduceEqDiff, plain1, *]; rfl) | fail)) entersWord (wordC W0 (most := 12) hl g1 (by omega) hn1 (by omega)).ok ?_
  rintro wv nx2 H2 ⟨⟨⟨ob, hw, hob⟩, hx2⟩, hok2⟩
  have hxs := wordF_mem (ns := ns) (most := 12) g1
  have hxl := wordF_length (k := ss.length) (ns := ns) (most := 12)
  generalize wordF ss.length ns 12 = xs at *
  replace hl := hl.ext hx2 hok1
  replace hw := hw.at
  repeat fail
  refine OpsL.call2 (by subst_vars; decide) (by (first | (simp only [ASt.ev, tmPut, ↓reduceIte, reduceIte, Nat.reduceEqDiff, plain1, *]; done) | fail)) (by (first | (simp only [ASt.ev, tmPut, ↓reduceIte, reduceIte, Nat.reduceEqDiff, plain1, *]; done) | fail)) entersRText (rtextC W0 (.inr hl) hw hxs (by omega) g4).ok ?_
  rintro v nx3 H3 ⟨⟨s, rfl, -, hsl, hx3⟩, hok3⟩
  replace hl := hl.ext hx3 hok2
  repeat (first | (refine OpsL.p (by subst_vars; decide) (by (first | (exact aop_move (by (first | (simp only [ASt.ev, tmPut, ↓reduceIte, reduceIte, Nat.reduceEqDiff, plain1, *]; rfl) | fail))) | (exact aop_assign (by (first | (simp only [ASt.ev, tmPut, ↓reduceIte, reduceIte, Nat.reduceEqDiff, plain1, *]; rfl) | fail))) | (exact aop_add (by (first | (simp only [ASt.ev, tmPut, ↓reduceIte, reduceIte, Nat.reduceEqDiff, plain1, *]; rfl) | fail)) (by (first | (simp only [ASt.ev, tmPut, ↓reduceIte, reduceIte, Nat.reduceEqDiff, plain1, *]; rfl) | fail)) (by omega)) | (exact aop_lenB (by (first | (simp only [ASt.ev, tmPut, ↓reduceIte, reduceIte, Nat.reduceEqDiff, plain1, *]; rfl) | fail)) (by exact rfl)) | fail)) ?_) | (refine Trip.seq ?_) | (refine Trip.ops ?_) | (refine OpsL.nil ?_; ((repeat (first | refine blockExit_eq ?_ | refine blockExit_ne (by decide) ?_ | refine blockExit_normal ?_ | refine blockExit_ret ?_ | refine blockExit_goto ?_)); first | (change Trip _ _ _ _ _) | dsimp only | skip)) | fail)
  refine OpsL.call2 (by subst_vars; decide) (by (first | (simp only [ASt.ev, tmPut, ↓reduceIte, reduceIte, Nat.reduceEqDiff, plain1, *]; rfl) | fail)) (by (first | (simp only [ASt.ev, tmPut, ↓reduceIte, reduceIte, Nat.reduceEqDiff, plain1, *]; rfl) | fail)) entersWithin (withinC W0 _ _ (by omega) (by omega)) ?_
  rintro v nx7 H7 ⟨rfl, h7, h8⟩
  subst h7; subst h8
  have c0 := Int.emod_nonneg c (show ((bs s).length + 1 : Int) ≠ 0 by omega)
  have c1 := Int.emod_lt_of_pos c (show (0 : Int) < (bs s).length + 1 by omega)
  generalize hcq : c % ((bs s).length + 1 : Int) = q at *
  obtain ⟨cn, rfl⟩ : ∃ cn : Nat, q = cn := ⟨q.toNat, by omega⟩
  repeat (first | (refine OpsL.p (by subst_vars; decide) (by (first | (exact aop_assign (by (first | (simp only [ASt.ev, tmPut, ↓reduceIte, reduceIte, Nat.reduceEqDiff, plain1, *]; rfl) | fail))) | fail)) ?_) | (refine Trip.seq ?_) | (refine OpsL.nil ?_; ((repeat (first | refine blockExit_eq ?_ | refine blockExit_ne (by decide) ?_ | refine blockExit_normal ?_ | refine blockExit_ret ?_ | refine blockExit_goto ?_)); first | (change Trip _ _ _ _ _) | dsimp only | skip)) | fail)
  obtain ⟨t0, nx4, H4, ht0, hx4, hcall⟩ := turnedC W0 (nx := nx7) (H := H7) (s := s) (k := k) (y := y) (by omega)
  have hcl : cn ≤ (bs s).length := by omega
  have hp1 : (bs (esubstr s 0 cn)).length ≤ (bs s).length := by rw [bs_sub, List.length_take, List.length_drop]; omega
  have hp2 : (bs (esubstr s cn (bs s).length)).length ≤ (bs s).length := by rw [bs_sub, List.length_take, List.length_drop]; omega
  generalize hP1 : esubstr s 0 cn = p1 at *
  generalize hP2 : esubstr s cn (bs s).length = p2 at *
  obtain ⟨r1, hr1⟩ : ∃ r, cat p1 more = r := ⟨_, rfl⟩
  obtain ⟨r2, hr2⟩ : ∃ r, cat r1 p2 = r := ⟨_, rfl⟩
  obtain ⟨r3, hr3⟩ : ∃ r, cat s ⟨#[32]⟩ = r := ⟨_, rfl⟩
  obtain ⟨r4, hr4⟩ : ∃ r, cat r3 raw = r := ⟨_, rfl⟩
  obtain ⟨r5, hr5⟩ : ∃ r, cat ⟨#[60]⟩ raw = r := ⟨_, rfl⟩
  obtain ⟨r6, hr6⟩ : ∃ r, cat r5 ⟨#[62]⟩ = r := ⟨_, rfl⟩
  obtain ⟨r7, hr7⟩ : ∃ r, cat ⟨#[60, 47]⟩ raw = r := ⟨_, rfl⟩
  have l1 := cat_len hr1
  have l2 := cat_len hr2
  have l3 := cat_len hr3
  have l4 := cat_len hr4
  have l5 := cat_len hr5
  have l6 := cat_len hr6
  have l7 := cat_len hr7
  have b1 : (bs ⟨#[32]⟩).length = 1 := rfl
  have b2 : (bs ⟨#[60]⟩).length = 1 := rfl
  have b3 : (bs ⟨#[62]⟩).length = 1 := rfl
  have b4 : (bs ⟨#[60, 47]⟩).length = 2 := rfl
  have hrs : ∀ x ∈ [t0, p1, r2, raw, r4, r6, r7, ⟨#[60, 97]⟩, ⟨#[60, 62]⟩, ⟨#[60, 47, 62]⟩, ⟨#[97, 98, 99, 100, 101, 102, 103, 104, 105]⟩, ⟨#[60, 97, 98, 99, 100, 101, 102, 103, 104, 105, 62]⟩, ⟨#[122, 122]⟩, ⟨#[60, 122, 122, 62]⟩, ⟨#[97, 62]⟩, ⟨#[60, 32, 97, 62]⟩], (bs x).length ≤ 1000000 := by
    have q1 : ∀ x ∈ ([⟨#[60, 97]⟩, ⟨#[60, 62]⟩, ⟨#[60, 47, 62]⟩, ⟨#[97, 98, 99, 100, 101, 102, 103, 104, 105]⟩, ⟨#[60, 97, 98, 99, 100, 101, 102, 103, 104, 105, 62]⟩, ⟨#[122, 122]⟩, ⟨#[60, 122, 122, 62]⟩, ⟨#[97, 62]⟩, ⟨#[60, 32, 97, 62]⟩] : List ByteArray), (bs x).length ≤ 1000000 := by decide
    intro x hx
    simp only [List.mem_cons] at hx
    rcases hx with rfl | rfl | rfl | rfl | rfl | rfl | rfl | hx
    case inr.inr.inr.inr.inr.inr.inr => exact q1 x (by simpa only [List.mem_cons] using hx)
    all_goals omega
  refine Trip.mono (Q := fun e st => e = .normal ∧ ∃ (tm' : Nat → Value) (nx8 : Nat) (H8 : Heap) (b : Nat) (rows : List ByteArray), st = ⟨tm', n, H8, nx8⟩ ∧ Ext nx7 H7 nx8 H8 ∧ rows.length = 16 ∧ (∀ x ∈ rows, (bs x).length ≤ 1000000) ∧ H8 b = some (.cells (rows.map .string) 1 none false (some 9)) ∧ tm' 15 = lv ∧ tm' 18 = .slice (some ⟨b, 0, none⟩) 16 16) ?_ ?_
  · refine OpsK.drawn (K := fun n1 H1 => Ext nx7 H7 n1 H1) fit.mixed (by kernel_rfl) (by kernel_rfl) Ext.refl ?_
    refine OpsK.one rfl (by kernel_rfl) ?_
    repeat (first | (refine OpsL.p (by subst_vars; decide) (by (first | (exact aop_move (by (first | (simp only [ASt.ev, tmPut, ↓reduceIte, reduceIte, Nat.reduceEqDiff, plain1, *]; rfl) | fail))) | fail)) ?_) | (refine OpsL.nil ?_; ((repeat (first | refine blockExit_eq ?_ | refine blockExit_ne (by decide) ?_ | refine blockExit_normal ?_ | refine blockExit_ret ?_ | refine blockExit_goto ?_)); first | (change Trip _ _ _ _ _) | dsimp only | skip)) | fail)
    refine OpsK.one rfl (by kernel_rfl) ?_
    repeat (first | (refine OpsL.p (by subst_vars; decide) (by (first | (exact aop_move (by (first | (simp only [ASt.ev, tmPut, ↓reduceIte, reduceIte, Nat.reduceEqDiff, plain1, *]; rfl) | fail))) | fail)) ?_) | (refine OpsL.nil ?_; ((repeat (first | refine blockExit_eq ?_ | refine blockExit_ne (by decide) ?_ | refine blockExit_normal ?_ | refine blockExit_ret ?_ | refine blockExit_goto ?_)); first | (change Trip _ _ _ _ _) | dsimp only | skip)) | fail)
    refine OpsK.one rfl (by kernel_rfl) ?_
    repeat (first | (refine OpsL.p (by subst_vars; decide) (by (first | (exact aop_move (by (first | (simp only [ASt.ev, tmPut, ↓reduceIte, reduceIte, Nat.reduceEqDiff, plain1, *]; rfl) | fail))) | fail)) ?_) | (refine OpsL.nil ?_; ((repeat (first | refine blockExit_eq ?_ | refine blockExit_ne (by decide) ?_ | refine blockExit_normal ?_ | refine blockExit_ret ?_ | refine blockExit_goto ?_)); first | (change Trip _ _ _ _ _) | dsimp only | skip)) | fail)
    refine callK3 (by subst_vars; decide) rfl (by (first | (simp only [ASt.ev, tmPut, ↓reduceIte, reduceIte, Nat.reduceEqDiff, plain1, *]; done) | fail)) (by (first | (simp only [ASt.ev, tmPut, ↓reduceIte, reduceIte, Nat.reduceEqDiff, plain1, *]; done) | fail)) (by (first | (simp only [ASt.ev, tmPut, ↓reduceIte, reduceIte, Nat.reduceEqDiff, plain1, *]; done) | fail)) entersTurned hcall hx4 ?_
    refine OpsK.one rfl (by kernel_rfl) ?_
    repeat (first | (refine OpsL.p (by subst_vars; decide) (by (first | (exact aop_move (by (first | (simp only [ASt.ev, tmPut, ↓reduceIte, reduceIte, Nat.reduceEqDiff, plain1, *]; rfl) | fail))) | fail)) ?_) | (refine OpsL.nil ?_; ((repeat (first | refine blockExit_eq ?_ | refine blockExit_ne (by decide) ?_ | refine blockExit_normal ?_ | refine blockExit_ret ?_ | refine blockExit_goto ?_)); first | (change Trip _ _ _ _ _) | dsimp only | skip)) | fail)
    refine OpsK.one rfl (by kernel_rfl) ?_
    repeat (first | (refine OpsL.p (by subst_vars; decide) (by (first | (exact aop_move (by (first | (simp only [ASt.ev, tmPut, ↓reduceIte, reduceIte, Nat.reduceEqDiff, plain1, *]; rfl) | fail))) | fail)) ?_) | (refine OpsL.nil ?_; ((repeat (first | refine blockExit_eq ?_ | refine blockExit_ne (by decide) ?_ | refine blockExit_normal ?_ | refine blockExit_ret ?_ | refine blockExit_goto ?_)); first | (change Trip _ _ _ _ _) | dsimp only | skip)) | fail)
    refine OpsK.sp (by subst_vars; decide) rfl (fun H' nx' _ => (aop_slice (r := .string p1) (a := none) (b := some (.int .i64 cn)) (c := none) (by (first | (simp only [ASt.ev, tmPut, ↓reduceIte, reduceIte, Nat.reduceEqDiff, plain1, *]; rfl) | fail)) rfl (by simp only [evOpt, ASt.ev, tmPut, ↓reduceIte, reduceIte, Option.some.injEq, Nat.reduceEqDiff, Option.map_some, *]) rfl (by rw [← hP1]; exact aSlice_strTo (by exact rfl) hcl))) ?_
    refine OpsK.one rfl (by kernel_rfl) ?_
    repeat (first | (refine OpsL.p (by subst_vars; decide) (by (first | (exact aop_move (by (first | (simp only [ASt.ev, tmPut, ↓reduceIte, reduceIte, Nat.reduceEqDiff, plain1, *]; rfl) | fail))) | fail)) ?_) | (refine OpsL.nil ?_; ((repeat (first | refine blockExit_eq ?_ | refine blockExit_ne (by decide) ?_ | refine blockExit_normal ?_ | refine blockExit_ret ?_ | refine blockExit_goto ?_)); first | (change Trip _ _ _ _ _) | dsimp only | skip)) | fail)
    refine OpsK.one rfl (by kernel_rfl) ?_
    repeat (first | (refine OpsL.p (by subst_vars; decide) (by (first | (exact aop_move (by (first | (simp only [ASt.ev, tmPut, ↓reduceIte, reduceIte, Nat.reduceEqDiff, plain1, *]; rfl) | fail))) | fail)) ?_) | (refine OpsL.nil ?_; ((repeat (first | refine blockExit_eq ?_ | refine blockExit_ne (by decide) ?_ | refine blockExit_normal ?_ | refine blockExit_ret ?_ | refine blockExit_goto ?_)); first | (change Trip _ _ _ _ _) | dsimp only | skip)) | fail)
    refine OpsK.sp (by subst_vars; decide) rfl (fun H' nx' _ => (aop_slice (r := .string p1) (a := none) (b := some (.int .i64 cn)) (c := none) (by (first | (simp only [ASt.ev, tmPut, ↓reduceIte, reduceIte, Nat.reduceEqDiff, plain1, *]; rfl) | fail)) rfl (by simp only [evOpt, ASt.ev, tmPut, ↓reduceIte, reduceIte, Option.some.injEq, Nat.reduceEqDiff, Option.map_some, *]) rfl (by rw [← hP1]; exact aSlice_strTo (by exact rfl) hcl))) ?_
    refine OpsK.one rfl (by kernel_rfl) ?_
    repeat (first | (refine OpsL.p (by subst_vars; decide) (by (first | (exact aop_move (by (first | (simp only [ASt.ev, tmPut, ↓reduceIte, reduceIte, Nat.reduceEqDiff, plain1, *]; rfl) | fail))) | fail)) ?_) | (refine OpsL.nil ?_; ((repeat (first | refine blockExit_eq ?_ | refine blockExit_ne (by decide) ?_ | refine blockExit_normal ?_ | refine blockExit_ret ?_ | refine blockExit_goto ?_)); first | (change Trip _ _ _ _ _) | dsimp only | skip)) | fail)
    refine OpsK.one rfl (by kernel_rfl) ?_
    refine OpsL.p (by subst_vars; decide) (aop_cat (r := r1) (by (first | (simp only [ASt.ev, tmPut, ↓reduceIte, reduceIte, Nat.reduceEqDiff, plain1, *]; done) | fail)) (by (first | (simp only [ASt.ev, tmPut, ↓reduceIte, reduceIte, Nat.reduceEqDiff, plain1, *]; done) | fail)) (by omega) hr1) ?_
    repeat (first | (refine OpsL.nil ?_; ((repeat (first | refine blockExit_eq ?_ | refine blockExit_ne (by decide) ?_ | refine blockExit_normal ?_ | refine blockExit_ret ?_ | refine blockExit_goto ?_)); first | (change Trip _ _ _ _ _) | dsimp only | skip)) | fail)
    refine OpsK.one rfl (by kernel_rfl) ?_
    repeat (first | (refine OpsL.p (by subst_vars; decide) (by (first | (exact aop_move (by (first | (simp only [ASt.ev, tmPut, ↓reduceIte, reduceIte, Nat.reduceEqDiff, plain1, *]; rfl) | fail))) | fail)) ?_) | (refine OpsL.nil ?_; ((repeat (first | refine blockExit_eq ?_ | refine blockExit_ne (by decide) ?_ | refine blockExit_normal ?_ | refine blockExit_ret ?_ | refine blockExit_goto ?_)); first | (change Trip _ _ _ _ _) | dsimp only | skip)) | fail)
    refine OpsK.one rfl (by kernel_rfl) ?_
    repeat (first | (refine OpsL.p (by subst_vars; decide) (by (first | (exact aop_move (by (first | (simp only [ASt.ev, tmPut, ↓reduceIte, reduceIte, Nat.reduceEqDiff, plain1, *]; rfl) | fail))) | fail)) ?_) | (refine OpsL.nil ?_; ((repeat (first | refine blockExit_eq ?_ | refine blockExit_ne (by decide) ?_ | refine blockExit_normal ?_ | refine blockExit_ret ?_ | refine blockExit_goto ?_)); first | (change Trip _ _ _ _ _) | dsimp only | skip)) | fail)
    refine OpsK.sp (by subst_vars; decide) rfl (fun H' nx' _ => (aop_slice (r := .string p2) (a := some (.int .i64 cn)) (b := none) (c := none) (by (first | (simp only [ASt.ev, tmPut, ↓reduceIte, reduceIte, Nat.reduceEqDiff, plain1, *]; rfl) | fail)) (by simp only [evOpt, ASt.ev, tmPut, ↓reduceIte, reduceIte, Option.some.injEq, Nat.reduceEqDiff, Option.map_some, *]) rfl rfl (by rw [← hP2]; exact aSlice_strFrom (by exact rfl) hcl))) ?_
    refine OpsK.one rfl (by kernel_rfl) ?_
    refine OpsL.p (by subst_vars; decide) (aop_cat (r := r2) (by (first | (simp only [ASt.ev, tmPut, ↓reduceIte, reduceIte, Nat.reduceEqDiff, plain1, *]; done) | fail)) (by (first | (simp only [ASt.ev, tmPut, ↓reduceIte, reduceIte, Nat.reduceEqDiff, plain1, *]; done) | fail)) (by omega) hr2) ?_
    repeat (first | (refine OpsL.nil ?_; ((repeat (first | refine blockExit_eq ?_ | refine blockExit_ne (by decide) ?_ | refine blockExit_normal ?_ | refine blockExit_ret ?_ | refine blockExit_goto ?_)); first | (change Trip _ _ _ _ _) | dsimp only | skip)) | fail)
    refine OpsK.one rfl (by kernel_rfl) ?_
    repeat (first | (refine OpsL.p (by subst_vars; decide) (by (first | (exact aop_move (by (first | (simp only [ASt.ev, tmPut, ↓reduceIte, reduceIte, Nat.reduceEqDiff, plain1, *]; rfl) | fail))) | fail)) ?_) | (refine OpsL.nil ?_; ((repeat (first | refine blockExit_eq ?_ | refine blockExit_ne (by decide) ?_ | refine blockExit_normal ?_ | refine blockExit_ret ?_ | refine blockExit_goto ?_)); first | (change Trip _ _ _ _ _) | dsimp only | skip)) | fail)
    refine OpsK.one rfl (by kernel_rfl) ?_
    repeat (first | (refine OpsL.p (by subst_vars; decide) (by (first | (exact aop_move (by (first | (simp only [ASt.ev, tmPut, ↓reduceIte, reduceIte, Nat.reduceEqDiff, plain1, *]; rfl) | fail))) | fail)) ?_) | (refine OpsL.nil ?_; ((repeat (first | refine blockExit_eq ?_ | refine blockExit_ne (by decide) ?_ | refine blockExit_normal ?_ | refine blockExit_ret ?_ | refine blockExit_goto ?_)); first | (change Trip _ _ _ _ _) | dsimp only | skip)) | fail)
    refine OpsK.one rfl (by kernel_rfl) ?_
    refine OpsL.p (by subst_vars; decide) (aop_cat (r := r3) (by (first | (simp only [ASt.ev, tmPut, ↓reduceIte, reduceIte, Nat.reduceEqDiff, plain1, *]; done) | fail)) (by (first | (simp only [ASt.ev, tmPut, ↓reduceIte, reduceIte, Nat.reduceEqDiff, plain1, *]; rfl) | fail)) (by omega) hr3) ?_
    repeat (first | (refine OpsL.nil ?_; ((repeat (first | refine blockExit_eq ?_ | refine blockExit_ne (by decide) ?_ | refine blockExit_normal ?_ | refine blockExit_ret ?_ | refine blockExit_goto ?_)); first | (change Trip _ _ _ _ _) | dsimp only | skip)) | fail)
    refine OpsK.one rfl (by kernel_rfl) ?_
    repeat (first | (refine OpsL.p (by subst_vars; decide) (by (first | (exact aop_move (by (first | (simp only [ASt.ev, tmPut, ↓reduceIte, reduceIte, Nat.reduceEqDiff, plain1, *]; rfl) | fail))) | fail)) ?_) | (refine OpsL.nil ?_; ((repeat (first | refine blockExit_eq ?_ | refine blockExit_ne (by decide) ?_ | refine blockExit_normal ?_ | refine blockExit_ret ?_ | refine blockExit_goto ?_)); first | (change Trip _ _ _ _ _) | dsimp only | skip)) | fail)
    refine OpsK.one rfl (by kernel_rfl) ?_
    refine OpsL.p (by subst_vars; decide) (aop_cat (r := r4) (by (first | (simp only [ASt.ev, tmPut, ↓reduceIte, reduceIte, Nat.reduceEqDiff, plain1, *]; done) | fail)) (by (first | (simp only [ASt.ev, tmPut, ↓reduceIte, reduceIte, Nat.reduceEqDiff, plain1, *]; done) | fail)) (by omega) hr4) ?_
    repeat (first | (refine OpsL.nil ?_; ((repeat (first | refine blockExit_eq ?_ | refine blockExit_ne (by decide) ?_ | refine blockExit_normal ?_ | refine blockExit_ret ?_ | refine blockExit_goto ?_)); first | (change Trip _ _ _ _ _) | dsimp only | skip)) | fail)
    refine OpsK.one rfl (by kernel_rfl) ?_
    repeat (first | (refine OpsL.p (by subst_vars; decide) (by (first | (exact aop_move (by (first | (simp only [ASt.ev, tmPut, ↓reduceIte, reduceIte, Nat.reduceEqDiff, plain1, *]; rfl) | fail))) | fail)) ?_) | (refine OpsL.nil ?_; ((repeat (first | refine blockExit_eq ?_ | refine blockExit_ne (by decide) ?_ | refine blockExit_normal ?_ | refine blockExit_ret ?_ | refine blockExit_goto ?_)); first | (change Trip _ _ _ _ _) | dsimp only | skip)) | fail)
    refine OpsK.one rfl (by kernel_rfl) ?_
    refine OpsL.p (by subst_vars; decide) (aop_cat (r := r5) (by (first | (simp only [ASt.ev, tmPut, ↓reduceIte, reduceIte, Nat.reduceEqDiff, plain1, *]; rfl) | fail)) (by (first | (simp only [ASt.ev, tmPut, ↓reduceIte, reduceIte, Nat.reduceEqDiff, plain1, *]; done) | fail)) (by omega) hr5) ?_
    repeat (first | (refine OpsL.nil ?_; ((repeat (first | refine blockExit_eq ?_ | refine blockExit_ne (by decide) ?_ | refine blockExit_normal ?_ | refine blockExit_ret ?_ | refine blockExit_goto ?_)); first | (change Trip _ _ _ _ _) | dsimp only | skip)) | fail)
    refine OpsK.one rfl (by kernel_rfl) ?_
    refine OpsL.p (by subst_vars; decide) (aop_cat (r := r6) (by (first | (simp only [ASt.ev, tmPut, ↓reduceIte, reduceIte, Nat.reduceEqDiff, plain1, *]; done) | fail)) (by (first | (simp only [ASt.ev, tmPut, ↓reduceIte, reduceIte, Nat.reduceEqDiff, plain1, *]; rfl) | fail)) (by omega) hr6) ?_
    repeat (first | (refine OpsL.nil ?_; ((repeat (first | refine blockExit_eq ?_ | refine blockExit_ne (by decide) ?_ | refine blockExit_normal ?_ | refine blockExit_ret ?_ | refine blockExit_goto ?_)); first | (change Trip _ _ _ _ _) | dsimp only | skip)) | fail)
    refine OpsK.one rfl (by kernel_rfl) ?_
    repeat (first | (refine OpsL.p (by subst_vars; decide) (by (first | (exact aop_move (by (first | (simp only [ASt.ev, tmPut, ↓reduceIte, reduceIte, Nat.reduceEqDiff, plain1, *]; rfl) | fail))) | fail)) ?_) | (refine OpsL.nil ?_; ((repeat (first | refine blockExit_eq ?_ | refine blockExit_ne (by decide) ?_ | refine blockExit_normal ?_ | refine blockExit_ret ?_ | refine blockExit_goto ?_)); first | (change Trip _ _ _ _ _) | dsimp only | skip)) | fail)
    refine OpsK.one rfl (by kernel_rfl) ?_
    refine OpsL.p (by subst_vars; decide) (aop_cat (r := r7) (by (first | (simp only [ASt.ev, tmPut, ↓reduceIte, reduceIte, Nat.reduceEqDiff, plain1, *]; rfl) | fail)) (by (first | (simp only [ASt.ev, tmPut, ↓reduceIte, reduceIte, Nat.reduceEqDiff, plain1, *]; done) | fail)) (by omega) hr7) ?_
    repeat (first | (refine OpsL.nil ?_; ((repeat (first | refine blockExit_eq ?_ | refine blockExit_ne (by decide) ?_ | refine blockExit_normal ?_ | refine blockExit_ret ?_ | refine blockExit_goto ?_)); first | (change Trip _ _ _ _ _) | dsimp only | skip)) | fail)
    refine newK (o := .cells (([t0, p1, r2, raw, r4, r6, r7, ⟨#[60, 97]⟩, ⟨#[60, 62]⟩, ⟨#[60, 47, 62]⟩, ⟨#[97, 98, 99, 100, 101, 102, 103, 104, 105]⟩, ⟨#[60, 97, 98, 99, 100, 101, 102, 103, 104, 105, 62]⟩, ⟨#[122, 122]⟩, ⟨#[60, 122, 122, 62]⟩, ⟨#[97, 62]⟩, ⟨#[60, 32, 97, 62]⟩] : List ByteArray).map .string) 1 none false (some 9)) (v := .slice (some ⟨nx4, 0, none⟩) 16 16) (by subst_vars; decide) (by kernel_rfl) (aop_buildSlice (l := [(0, .string t0), (1, .string p1), (2, .string r2), (3, .string raw), (4, .string r4), (5, .string r6), (6, .string r7), (7, .string ⟨#[60, 97]⟩), (8, .string ⟨#[60, 62]⟩), (9, .string ⟨#[60, 47, 62]⟩), (10, .string ⟨#[97, 98, 99, 100, 101, 102, 103, 104, 105]⟩), (11, .string ⟨#[60, 97, 98, 99, 100, 101, 102, 103, 104, 105, 62]⟩), (12, .string ⟨#[122, 122]⟩), (13, .string ⟨#[60, 122, 122, 62]⟩), (14, .string ⟨#[97, 62]⟩), (15, .string ⟨#[60, 32, 97, 62]⟩)]) (by simp only [evParts, ASt.ev, tmPut, ↓reduceIte, reduceIte, Option.some.injEq, Nat.reduceEqDiff, *]; kernel_rfl) (by kernel_rfl)) ((hx4.up (Nat.le_succ _)).put hx4.1) ?_
    refine OpsK.one rfl (by kernel_rfl) ?_
    repeat (first | (refine OpsL.p (by subst_vars; decide) (by (first | (exact aop_assign (by (first | (simp only [ASt.ev, tmPut, ↓reduceIte, reduceIte, Nat.reduceEqDiff, plain1, *]; rfl) | fail))) | fail)) ?_) | (refine OpsL.nil ?_; ((repeat (first | refine blockExit_eq ?_ | refine blockExit_ne (by decide) ?_ | refine blockExit_normal ?_ | refine blockExit_ret ?_ | refine blockExit_goto ?_)); first | (change Trip _ _ _ _ _) | dsimp only | skip)) | fail)
    refine OpsK.nil ?_
    exact ⟨rfl, _, _, _, nx4, [t0, p1, r2, raw, r4, r6, r7, ⟨#[60, 97]⟩, ⟨#[60, 62]⟩, ⟨#[60, 47, 62]⟩, ⟨#[97, 98, 99, 100, 101, 102, 103, 104, 105]⟩, ⟨#[60, 97, 98, 99, 100, 101, 102, 103, 104, 105, 62]⟩, ⟨#[122, 122]⟩, ⟨#[60, 122, 122, 62]⟩, ⟨#[97, 62]⟩, ⟨#[60, 32, 97, 62]⟩], rfl, (hx4.up (Nat.le_succ _)).put hx4.1, rfl, hrs, Heap.put_eq, by simp [tmPut], by simp [tmPut]⟩
  · rintro e st ⟨rfl, tm', nx8, H8, b, rows, rfl, hx8, hrl, hrs, hH8, e15, e18⟩
    dsimp only
    repeat (first | (refine OpsL.p (by subst_vars; decide) (by (first | (exact aop_assign (by (first | (simp only [ASt.ev, tmPut, ↓reduceIte, reduceIte, Nat.reduceEqDiff, plain1, *]; rfl) | fail))) | fail)) ?_) | (refine Trip.seq ?_) | (refine Trip.ops ?_) | (refine Trip.block ?_) | (refine OpsL.nil ?_; ((repeat (first | refine blockExit_eq ?_ | refine blockExit_ne (by decide) ?_ | refine blockExit_normal ?_ | refine blockExit_ret ?_ | refine blockExit_goto ?_)); first | (change Trip _ _ _ _ _) | dsimp only | skip)) | fail)
    have hl8 := hl.ext hx8 hok3
    refine Trip.ok fun hok8 => ?_
    replace hok8 : ∀ id o, H8 id = some o → id < nx8 := hok8
    refine Trip.inv (fun (i : Nat) st => ∃ (tm : Nat → Value) (nx' : Nat) (H' : Heap), st = ⟨tm, n, H', nx'⟩ ∧ Ext nx8 H8 nx' H' ∧ tm 15 = lv ∧ tm 18 = .slice (some ⟨b, 0, none⟩) 16 16 ∧ tm 19 = .int .i64 i ∧ i ≤ 16) (fun i => 16 - i) 0 ?_ ?_
    · exact ⟨_, _, _, rfl, Ext.refl, by simp [tmPut, *], by simp [tmPut, *], by simp [tmPut], by omega⟩
    · clear e0 e1 e2 e3 e4 e5 e6 e15 e18 hl hw hn hn1 hx1 hx2 hx3 hok hok1 hok2 hok3 hob
      rintro i st ⟨tm, nx', H', rfl, hext, e15, e18, e19, hi⟩
      refine Trip.ok fun hok' => ?_
      replace hok' : ∀ id o, H' id = some o → id < nx' := hok'
      repeat' (first | (refine OpsL.p (by subst_vars; decide) (by (first | (exact aop_move (by (first | (simp only [ASt.ev, tmPut, ↓reduceIte, reduceIte, Nat.reduceEqDiff, plain1, *]; rfl) | fail))) | (exact aop_assign (by (first | (simp only [ASt.ev, tmPut, ↓reduceIte, reduceIte, Nat.reduceEqDiff, plain1, *]; rfl) | fail))) | (exact aop_lss (by (first | (simp only [ASt.ev, tmPut, ↓reduceIte, reduceIte, Nat.reduceEqDiff, plain1, *]; rfl) | fail)) (by (first | (simp only [ASt.ev, tmPut, ↓reduceIte, reduceIte, Nat.reduceEqDiff, plain1, *]; rfl) | fail))) | (exact aop_len (by (first | (simp only [ASt.ev, tmPut, ↓reduceIte, reduceIte, Nat.reduceEqDiff, plain1, *]; rfl) | fail)) (by exact rfl)) | (exact aop_indexAddr (by (first | (simp only [ASt.ev, tmPut, ↓reduceIte, reduceIte, Nat.reduceEqDiff, plain1, *]; rfl) | fail)) (by (first | (simp only [ASt.ev, tmPut, ↓reduceIte, reduceIte, Nat.reduceEqDiff, plain1, *]; rfl) | fail)) (by exact rfl) (by exact rfl) (by omega) (by omega)) | fail)) ?_) | (refine Trip.seq ?_) | (refine Trip.ops ?_) | (refine Trip.block ?_) | (refine Trip.ite (by (first | (simp only [ASt.ev, tmPut, ↓reduceIte, reduceIte, Nat.reduceEqDiff, plain1, *]; rfl) | fail)) (fun _ => ?_) (fun _ => ?_)) | (refine Trip.skip ?_; ((repeat (first | refine blockExit_eq ?_ | refine blockExit_ne (by decide) ?_ | refine blockExit_normal ?_ | refine blockExit_ret ?_ | refine blockExit_goto ?_)); first | (change Trip _ _ _ _ _) | dsimp only | skip)) | (refine Trip.exit ?_; ((repeat (first | refine blockExit_eq ?_ | refine blockExit_ne (by decide) ?_ | refine blockExit_normal ?_ | refine blockExit_ret ?_ | refine blockExit_goto ?_)); first | (change Trip _ _ _ _ _) | dsimp only | skip)) | (refine Trip.ret ?_; ((repeat (first | refine blockExit_eq ?_ | refine blockExit_ne (by decide) ?_ | refine blockExit_normal ?_ | refine blockExit_ret ?_ | refine blockExit_goto ?_)); first | (change Trip _ _ _ _ _) | dsimp only | skip)) | (refine OpsL.nil ?_; ((repeat (first | refine blockExit_eq ?_ | refine blockExit_ne (by decide) ?_ | refine blockExit_normal ?_ | refine blockExit_ret ?_ | refine blockExit_goto ?_)); first | (change Trip _ _ _ _ _) | dsimp only | skip)) | fail)
      · rename_i hlt
        have hlr : i < rows.length := by omega
        have hbn : b < nx8 := hok8 _ _ hH8
        have hbn' : b < nx' := by have := hext.1; omega
        have hH' : H' b = some (.cells (rows.map .string) 1 none false (some 9)) := by rw [hext.2 b hbn]; exact hH8
        have hcell : ∀ G : Heap, G b = some (.cells (rows.map .string) 1 none false (some 9)) → cellAt G ⟨b, 0 + (i : Int).toNat * 1, none⟩ (.string rows[i]) := fun G hG => by
          have := cellAt_own (off := i) hG (by simpa using hlr)
          simpa using this
        have hck := hcell H' hH'
        have hrl2 := hrs _ (List.getElem_mem hlr)
        have hpl := parseF_len (kss ss) (bs rows[i])
        have hl9 := hl8.ext hext hok8
        repeat (first | (refine OpsL.p (by subst_vars; decide) (by (first | (exact aop_load (by (first | (simp only [ASt.ev, tmPut, ↓reduceIte, reduceIte, Nat.reduceEqDiff, plain1, *]; rfl) | fail)) (by exact rfl) rfl (by assumption)) | fail)) ?_) | fail)
        refine OpsL.call2 (by subst_vars; decide) (by (first | (simp only [ASt.ev, tmPut, ↓reduceIte, reduceIte, Nat.reduceEqDiff, plain1, *]; done) | fail)) (by (first | (simp only [ASt.ev, tmPut, ↓reduceIte, reduceIte, Nat.reduceEqDiff, plain1, *]; done) | fail)) entersParse (parseC W0 (.inr hl9) (by omega) hrl2).ok ?_
        rintro v nx9 H9 ⟨⟨⟨wv1, ob1, rfl, ho1, hb1⟩, hx9⟩, hok9⟩
        have hck9 := hcell H9 (by rw [hx9.2 b hbn']; exact hH')
        repeat (first | (refine OpsL.p (by subst_vars; decide) (by (first | (exact aop_move (by (first | (simp only [ASt.ev, tmPut, ↓reduceIte, reduceIte, Nat.reduceEqDiff, plain1, *]; rfl) | fail))) | (exact aop_assign (by (first | (simp only [ASt.ev, tmPut, ↓reduceIte, reduceIte, Nat.reduceEqDiff, plain1, *]; rfl) | fail))) | (exact aop_extract (by (first | (simp only [ASt.ev, tmPut, ↓reduceIte, reduceIte, Nat.reduceEqDiff, plain1, *]; rfl) | fail)) (by exact rfl)) | (exact aop_indexAddr (by (first | (simp only [ASt.ev, tmPut, ↓reduceIte, reduceIte, Nat.reduceEqDiff, plain1, *]; rfl) | fail)) (by (first | (simp only [ASt.ev, tmPut, ↓reduceIte, reduceIte, Nat.reduceEqDiff, plain1, *]; rfl) | fail)) (by exact rfl) (by exact rfl) (by omega) (by omega)) | (exact aop_load (by (first | (simp only [ASt.ev, tmPut, ↓reduceIte, reduceIte, Nat.reduceEqDiff, plain1, *]; rfl) | fail)) (by exact rfl) rfl (by assumption)) | fail)) ?_) | (refine Trip.seq ?_) | (refine Trip.ops ?_) | (refine OpsL.nil ?_; ((repeat (first | refine blockExit_eq ?_ | refine blockExit_ne (by decide) ?_ | refine blockExit_normal ?_ | refine blockExit_ret ?_ | refine blockExit_goto ?_)); first | (change Trip _ _ _ _ _) | dsimp only | skip)) | fail)
        refine OpsL.call2 (by subst_vars; decide) (by (first | (simp only [ASt.ev, tmPut, ↓reduceIte, reduceIte, Nat.reduceEqDiff, plain1, *]; done) | fail)) (by (first | (simp only [ASt.ev, tmPut, ↓reduceIte, reduceIte, Nat.reduceEqDiff, plain1, *]; done) | fail)) entersRParse (rparseC W0 (.inr (hl9.ext hx9 hok')) (by omega) hrl2).ok ?_
        rintro v nx10 H10 ⟨⟨⟨wv2, ob2, rfl, ho2, hb2⟩, hx10⟩, hok10⟩
        generalize parseF (kss ss) (bs rows[i]) = res at *
        have hi1 : IntsAt H10 wv1 res.1 := (ho1.at).ext hx10 hok9
        have hi2 : IntsAt H10 wv2 res.1 := ho2.at
        repeat' (first | (refine OpsL.p (by subst_vars; decide) (by (first | (exact aop_move (by (first | (simp only [ASt.ev, tmPut, ↓reduceIte, reduceIte, Nat.reduceEqDiff, plain1, *]; rfl) | fail))) | (exact aop_assign (by (first | (simp only [ASt.ev, tmPut, ↓reduceIte, reduceIte, Nat.reduceEqDiff, plain1, *]; rfl) | fail))) | (exact aop_neq (by (first | (simp only [ASt.ev, tmPut, ↓reduceIte, reduceIte, Nat.reduceEqDiff, plain1, *]; rfl) | fail)) (by (first | (simp only [ASt.ev, tmPut, ↓reduceIte, reduceIte, Nat.reduceEqDiff, plain1, *]; rfl) | fail))) | (exact aop_extract (by (first | (simp only [ASt.ev, tmPut, ↓reduceIte, reduceIte, Nat.reduceEqDiff, plain1, *]; rfl) | fail)) (by exact rfl)) | (exact aop_pickF (by (first | (simp only [ASt.ev, tmPut, ↓reduceIte, reduceIte, Nat.reduceEqDiff, decide_true, decide_false, not_true_eq_false, not_false_eq_true, Bool.not_true, Bool.not_false, *]; done) | fail)) (by (first | (simp only [ASt.ev, tmPut, ↓reduceIte, reduceIte, Nat.reduceEqDiff, plain1, *]; rfl) | fail))) | fail)) ?_) | (refine Trip.seq ?_) | (refine Trip.ops ?_) | (refine OpsL.nil ?_; ((repeat (first | refine blockExit_eq ?_ | refine blockExit_ne (by decide) ?_ | refine blockExit_normal ?_ | refine blockExit_ret ?_ | refine blockExit_goto ?_)); first | (change Trip _ _ _ _ _) | dsimp only | skip)) | (refine OpsL.unguard (by exact rfl) (by (first | (simp only [ASt.ev, tmPut, ↓reduceIte, reduceIte, Nat.reduceEqDiff, decide_true, decide_false, not_true_eq_false, not_false_eq_true, Bool.not_true, Bool.not_false, *]; done) | fail)) ?_) | (refine OpsL.guardF (by exact rfl) (by (first | (simp only [ASt.ev, tmPut, ↓reduceIte, reduceIte, Nat.reduceEqDiff, plain1, *]; rfl) | fail)) (by subst_vars; decide) (fun _ => ?_) (fun _ => ?_)) | fail)
        all_goals first | (exfalso; simp_all; done) | skip
        all_goals refine OpsL.call2 (by subst_vars; decide) (by (first | (simp only [ASt.ev, tmPut, ↓reduceIte, reduceIte, Nat.reduceEqDiff, plain1, *]; rfl) | fail)) (by (first | (simp only [ASt.ev, tmPut, ↓reduceIte, reduceIte, Nat.reduceEqDiff, plain1, *]; rfl) | fail)) entersIntsC (intsEqC W0 hi1 hi2 (by omega)) ?_
        all_goals rintro v nx11 H11 ⟨rfl, rfl, rfl⟩
        all_goals repeat (first | (refine OpsL.p (by subst_vars; decide) (by (first | (exact aop_not (by (first | (simp only [ASt.ev, tmPut, ↓reduceIte, reduceIte, Nat.reduceEqDiff, plain1, *]; rfl) | fail))) | (exact aop_pickF (by (first | (simp only [ASt.ev, tmPut, ↓reduceIte, reduceIte, Nat.reduceEqDiff, decide_true, decide_false, not_true_eq_false, not_false_eq_true, Bool.not_true, Bool.not_false, *]; done) | fail)) (by (first | (simp only [ASt.ev, tmPut, ↓reduceIte, reduceIte, Nat.reduceEqDiff, plain1, *]; rfl) | fail))) | fail)) ?_) | (refine OpsL.nil ?_; ((repeat (first | refine blockExit_eq ?_ | refine blockExit_ne (by decide) ?_ | refine blockExit_normal ?_ | refine blockExit_ret ?_ | refine blockExit_goto ?_)); first | (change Trip _ _ _ _ _) | dsimp only | skip)) | (refine OpsL.unguard (by exact rfl) (by (first | (simp only [ASt.ev, tmPut, ↓reduceIte, reduceIte, Nat.reduceEqDiff, decide_true, decide_false, not_true_eq_false, not_false_eq_true, Bool.not_true, Bool.not_false, *]; done) | fail)) ?_) | fail)
        all_goals refine Trip.iteB (b := false) (by (first | (simp only [ASt.ev, tmPut, ↓reduceIte, reduceIte, Nat.reduceEqDiff, decide_true, decide_false, not_true_eq_false, not_false_eq_true, Bool.not_true, Bool.not_false, *]; done) | fail)) (fun h => absurd h (by decide)) (fun _ => ?_)
        all_goals repeat (first | (refine OpsL.p (by subst_vars; decide) (by (first | (exact aop_move (by (first | (simp only [ASt.ev, tmPut, ↓reduceIte, reduceIte, Nat.reduceEqDiff, plain1, *]; rfl) | fail))) | (exact aop_assign (by (first | (simp only [ASt.ev, tmPut, ↓reduceIte, reduceIte, Nat.reduceEqDiff, plain1, *]; rfl) | fail))) | (exact aop_add (by (first | (simp only [ASt.ev, tmPut, ↓reduceIte, reduceIte, Nat.reduceEqDiff, plain1, *]; rfl) | fail)) (by (first | (simp only [ASt.ev, tmPut, ↓reduceIte, reduceIte, Nat.reduceEqDiff, plain1, *]; rfl) | fail)) (by omega)) | fail)) ?_) | (refine Trip.ops ?_) | (refine Trip.skip ?_; ((repeat (first | refine blockExit_eq ?_ | refine blockExit_ne (by decide) ?_ | refine blockExit_normal ?_ | refine blockExit_ret ?_ | refine blockExit_goto ?_)); first | (change Trip _ _ _ _ _) | dsimp only | skip)) | (refine OpsL.nil ?_; ((repeat (first | refine blockExit_eq ?_ | refine blockExit_ne (by decide) ?_ | refine blockExit_normal ?_ | refine blockExit_ret ?_ | refine blockExit_goto ?_)); first | (change Trip _ _ _ _ _) | dsimp only | skip)) | fail)
        all_goals exact ⟨i + 1, ⟨_, _, _, rfl, (hext.trans hx9).trans hx10, by simp [tmPut, *], by simp [tmPut, *], by simp [tmPut], by omega⟩, by omega⟩
      · exact ⟨.inr rfl, _, res_tmp, by simp [tmPut]⟩

theorem core (W0 : World) (nx : Nat) (H : Heap) (a0 : Int) (w0 : (Lit.int .i64 a0).wf = true) (x1 : List Int) (w1 : ∀ x ∈ x1, (Lit.int .i64 x).wf = true) (a2 : Int) (w2 : (Lit.int .i64 a2).wf = true) (a3 : Int) (w3 : (Lit.int .u8 a3).wf = true) (a4 : Int) (w4 : (Lit.int .i64 a4).wf = true) (s5 : ByteArray) (w5 : s5.size ≤ maxLen) (s6 : ByteArray) (w6 : s6.size ≤ maxLen) (us : List Value)
    (hat : All2 (Arg.at H) [.plain (.int .i64 a0), .ints .i64 x1, .plain (.int .i64 a2), .plain (.int .u8 a3), .plain (.int .i64 a4), .plain (.string s5), .plain (.string s6)] us) (_ : ∀ id o, H id = some o → id < nx) : ACalls Try.prog W0 4 us nx H fun v _ _ => v = .bool true := by
  obtain ⟨u0, us, rfl, h0, hat⟩ := hat.cons
  obtain ⟨u1, us, rfl, h1, hat⟩ := hat.cons
  obtain ⟨u2, us, rfl, h2, hat⟩ := hat.cons
  obtain ⟨u3, us, rfl, h3, hat⟩ := hat.cons
  obtain ⟨u4, us, rfl, h4, hat⟩ := hat.cons
  obtain ⟨u5, us, rfl, h5, hat⟩ := hat.cons
  obtain ⟨u6, us, rfl, h6, hat⟩ := hat.cons
  obtain rfl := hat.nil
  obtain rfl : u0 = _ := h0
  obtain rfl : u2 = _ := h2
  obtain rfl : u3 = _ := h3
  obtain rfl : u4 = _ := h4
  obtain rfl : u5 = _ := h5
  obtain rfl : u6 = _ := h6
  exact law W0 h1.1

theorem own : ownKnob Try.prog.godebug = none := by kernel_rfl
theorem laidOut : laidOutB Try.prog = true := by kernel_rfl
theorem cells_ints : Try.prog.cellsOf 3 = 1 := by kernel_rfl

set_option maxRecDepth 100000 in
theorem lifted (os : Os) (started : os.Started) (H : Type) (enc : TypeId × Value → H) :
    ReturnsInHanded {} Try.checked os 4 .any (Rows.wordReadsSpec.pre6 enc Try.prog Try.f4 Rows.wordReadsRow.domain false) (Rows.wordReadsSpec.post enc Try.prog Try.f4 false true false false) := by
  refine returnsInHanded_of_change (C := Try.checked) own started (by kernel_rfl) Try.func4
    (ChangeSpec.witness6 (enc := enc) (C := Try.checked) false ⟨#[], #[.int .i64 0, .slice none 0 0, .int .i64 0, .int .u8 0, .int .i64 0, .string .empty, .string .empty], []⟩ 8 (by kernel_rfl) (by kernel_rfl) (by kernel_rfl) (by kernel_rfl)) ?_
  intro W base args ds gs before hval0 hW _ _
  have hval : ∀ (j : Nat) t v, Try.f4.params[j]? = some t → args[j]? = some v → Value.okWide Try.prog W .any base t v := hval0
  have hW' := hW
  obtain ⟨p, q, hA0, hV, rfl, _, _⟩ := hW
  have hA : DataW.TrodAll enc Try.prog W 0 (fun _ => true) true Try.f4.params.toList args.toList ds p := hA0
  rw [Try.params4] at hA hval
  obtain ⟨v0, vs0, d0, ds0, p0, q0, hargs, rfl, rfl, h0, r0⟩ := trodAll_cons hA
  obtain ⟨v1, vs1, d1, ds1, p1, q1, rfl, rfl, rfl, h1, r1⟩ := trodAll_cons r0
  obtain ⟨v2, vs2, d2, ds2, p2, q2, rfl, rfl, rfl, h2, r2⟩ := trodAll_cons r1
  obtain ⟨v3, vs3, d3, ds3, p3, q3, rfl, rfl, rfl, h3, r3⟩ := trodAll_cons r2
  obtain ⟨v4, vs4, d4, ds4, p4, q4, rfl, rfl, rfl, h4, r4⟩ := trodAll_cons r3
  obtain ⟨v5, vs5, d5, ds5, p5, q5, rfl, rfl, rfl, h5, r5⟩ := trodAll_cons r4
  obtain ⟨v6, vs6, d6, ds6, p6, q6, rfl, rfl, rfl, h6, r6⟩ := trodAll_cons r5
  obtain ⟨rfl, rfl, rfl⟩ := trodAll_nil r6
  obtain rfl : args = #[v0, v1, v2, v3, v4, v5, v6] := by cases args; simp_all
  obtain ⟨rfl, rfl⟩ := trodVars_none hV
  obtain ⟨a0, rfl, rfl, rfl, w0⟩ := open_int Try.underlying3 (hval 0 3 v0 rfl rfl) h0
  obtain ⟨x1, c1, w1⟩ := came_ints Try.underlying22 Try.underlying3 cells_ints (hval 1 22 v1 rfl rfl) h1
  obtain ⟨a2, rfl, rfl, rfl, w2⟩ := open_int Try.underlying3 (hval 2 3 v2 rfl rfl) h2
  obtain ⟨a3, rfl, rfl, rfl, w3⟩ := open_int Try.underlying5 (hval 3 5 v3 rfl rfl) h3
  obtain ⟨a4, rfl, rfl, rfl, w4⟩ := open_int Try.underlying3 (hval 4 3 v4 rfl rfl) h4
  obtain ⟨s5, rfl, rfl, rfl, w5⟩ := Go.ChangeMaps.open_string Try.underlying9 (hval 5 9 v5 rfl rfl) h5
  obtain ⟨s6, rfl, rfl, rfl, w6⟩ := Go.ChangeMaps.open_string Try.underlying9 (hval 6 9 v6 rfl rfl) h6
  clear hA0 hval0
  refine (law_calls (ars := [.plain (.int .i64 a0), .ints .i64 x1, .plain (.int .i64 a2), .plain (.int .u8 a3), .plain (.int .i64 a4), .plain (.string s5), .plain (.string s6)]) (vs := [_, _, _, _, _, _, _]) ⟨⟨rfl, rfl⟩, c1, ⟨rfl, rfl⟩, ⟨rfl, rfl⟩, ⟨rfl, rfl⟩, ⟨rfl, rfl⟩, ⟨rfl, rfl⟩, trivial⟩ (fun nx H us hat hok => core W nx H a0 w0 x1 w1 a2 w2 a3 w3 a4 w4 s5 w5 s6 w6 us hat hok)).mono fun e W' ⟨he, hg⟩ => ?_
  subst he
  exact ⟨_, rfl, law_post laidOut (by kernel_rfl) rfl Try.underlying4 rfl hW' rfl hg⟩

theorem over : Rows.wordReadsRow.holds Try.pinned (OpenSpec.ofChange Rows.wordReadsSpec) :=
  OpenClaim.holds_of_wide 4 Try.f4 rfl rfl rfl rfl rfl rfl rfl ⟨rfl, rfl, rfl, rfl, rfl⟩ rfl rfl rfl rfl rfl (by kernel_rfl) Try.func4 (by kernel_rfl)
    (of_decide_eq_true (by kernel_rfl)) (by unfold Func.isWrapper; first | (rw [if_pos (by decide +kernel)]; kernel_rfl) | (rw [if_neg (by decide +kernel)]; exact ⟨rfl, rfl⟩))
    (fun os started H enc _ => lifted os started H enc)

theorem proved : Rows.WordReadsSaid := over
#print axioms proved

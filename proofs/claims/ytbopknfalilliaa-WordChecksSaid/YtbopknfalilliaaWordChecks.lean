/-
  The law WordChecks of chapter 1 holds for all arguments: whether any symbols may be is told as the document says.
-/
import Derived.Test.YtbopknfalilliaaFind1
import Derived.ChangeMaps5
namespace Go.Proofs.Ytbopknfalilliaa.wordChecks
set_option linter.unusedSimpArgs false
set_option linter.unusedVariables false
open Go.Am Go.RowKit Go.ChangeShapes Go.WideShapes Go.ChangeAt
attribute [local irreducible] aop OpsL Trip blockExit OpsD OpsC

def flat : List (ByteArray × Int) → List Value
  | [] => []
  | s :: l => .string s.1 :: .int .i64 s.2 :: flat l

theorem flat_length (ss : List (ByteArray × Int)) : (flat ss).length = ss.length * 2 := by
  induction ss with
  | nil => rfl
  | cons s l ih => simp only [flat, List.length_cons, ih]; omega
theorem flat_append (a b : List (ByteArray × Int)) : flat (a ++ b) = flat a ++ flat b := by
  induction a with
  | nil => rfl
  | cons s l ih => simp only [List.cons_append, flat, ih]
theorem flat_all (ss : List (ByteArray × Int)) : (flat ss).all (·.oneCell') = true := by
  induction ss with
  | nil => rfl
  | cons s l ih => simp only [flat, List.all_cons, ih, Bool.and_true]; rfl
theorem flat_get (ss : List (ByteArray × Int)) : ∀ (i : Nat) (h : i < ss.length) (rest : List Value), (((flat ss ++ rest).drop (i * 2)).take 2) = [.string ss[i].1, .int .i64 ss[i].2] := by
  induction ss with
  | nil => intro i h; simp at h
  | cons s l ih =>
    intro i h rest
    cases i with
    | zero => simp [flat]
    | succ i =>
      rw [show (i + 1) * 2 = i * 2 + 2 by omega, ← List.drop_drop]
      have e : (flat (s :: l) ++ rest).drop 2 = flat l ++ rest := by simp [flat]
      have : ((flat (s :: l) ++ rest).drop (i * 2)).drop 2 = ((flat (s :: l) ++ rest).drop 2).drop (i * 2) := by rw [List.drop_drop, List.drop_drop, Nat.add_comm]
      rw [this, e]
      simpa using ih i (by simpa using h) rest
theorem flat_set0 (ss : List (ByteArray × Int)) : ∀ (i : Nat) (h : i < ss.length) (rest : List Value) (nm : ByteArray), (flat ss ++ rest).set (i * 2) (.string nm) = flat (ss.set i (nm, ss[i].2)) ++ rest := by
  induction ss with
  | nil => intro i h; simp at h
  | cons s l ih =>
    intro i h rest nm
    cases i with
    | zero => simp [flat]
    | succ i =>
      rw [show (i + 1) * 2 = i * 2 + 1 + 1 by omega]
      simp only [flat, List.cons_append, List.set_cons_succ, List.getElem_cons_succ]
      rw [ih i (by simpa using h) rest nm]
theorem flat_set1 (ss : List (ByteArray × Int)) : ∀ (i : Nat) (h : i < ss.length) (rest : List Value) (k : Int), (flat ss ++ rest).set (i * 2 + 1) (.int .i64 k) = flat (ss.set i (ss[i].1, k)) ++ rest := by
  induction ss with
  | nil => intro i h; simp at h
  | cons s l ih =>
    intro i h rest k
    cases i with
    | zero => simp [flat]
    | succ i =>
      rw [show (i + 1) * 2 + 1 = (i * 2 + 1) + 1 + 1 by omega]
      simp only [flat, List.cons_append, List.set_cons_succ, List.getElem_cons_succ]
      rw [ih i (by simpa using h) rest k]

theorem SymsAt.all {H : Heap} {a : Addr} {c n : Nat} {ss : List (ByteArray × Int)} (h : SymsAt H (.slice (some a) n c) ss) (h0 : 0 < ss.length) : n = ss.length ∧ getc H a (ss.length * 2) = some (flat ss) := by
  obtain ⟨a', c', he, hs⟩ := h
  cases he
  refine ⟨rfl, ?_⟩
  have hl := hs (ss.length - 1) (by omega)
  have cell : ∀ i (h : i < ss.length), getc H ⟨a.block, a.off + i * 2, a.spot⟩ 2 = some [.string ss[i].1, .int .i64 ss[i].2] := hs
  unfold getc at hl cell ⊢
  cases ho : H a.block with
  | none => simp only [ho] at hl; cases hl
  | some o =>
    cases o with
    | cells cs e t ro q =>
      simp only [ho] at hl cell ⊢
      split at hl
      case isFalse => cases hl
      rename_i hc
      rw [if_pos ⟨hc.1, by have := hc.2; omega⟩]
      congr 1
      apply List.ext_getElem
      · rw [List.length_take, List.length_drop, flat_length]; have := hc.2; omega
      · intro i h1 h2
        rw [flat_length] at h2
        have hc2 := cell (i / 2) (by omega)
        rw [if_pos ⟨hc.1, by have := hc.2; omega⟩] at hc2
        simp only [Option.some.injEq] at hc2
        have hf := flat_get ss (i / 2) (by omega) []
        rw [List.append_nil] at hf
        have hdm := Nat.div_add_mod i 2
        have g1 : (cs.drop a.off)[i]? = (flat ss)[i]? := by
          have e1 : ((cs.drop (a.off + i / 2 * 2)).take 2)[i % 2]? = (((flat ss).drop (i / 2 * 2)).take 2)[i % 2]? := by rw [hc2, hf]
          rw [List.getElem?_take, List.getElem?_take, if_pos (Nat.mod_lt _ (by omega)), if_pos (Nat.mod_lt _ (by omega)), List.getElem?_drop, List.getElem?_drop] at e1
          rw [List.getElem?_drop]
          rw [show a.off + i / 2 * 2 + i % 2 = a.off + i by omega, show i / 2 * 2 + i % 2 = i by omega] at e1
          exact e1
        rw [List.getElem_take]
        have h3 : i < (cs.drop a.off).length := by rw [List.length_drop]; have := hc.2; omega
        rw [List.getElem?_eq_getElem h3, List.getElem?_eq_getElem (by rw [flat_length]; omega)] at g1
        exact Option.some.inj g1
    | map es => simp only [ho] at hl; cases hl
    | siter s p => simp only [ho] at hl; cases hl

/-- A row of symbols of one's own. -/
def OwnSyms (H : Heap) (b t : Nat) (v : Value) (ss : List (ByteArray × Int)) : Prop :=
  v = .slice (some ⟨b, 0, some t⟩) ss.length ss.length ∧ ∃ rest, H b = some (.cells (flat ss ++ rest) 2 (some t) false (some 40))

theorem OwnSyms.at {H : Heap} {b t : Nat} {v : Value} {ss : List (ByteArray × Int)} (h : OwnSyms H b t v ss) : SymsR H v ss := by
  obtain ⟨rfl, rest, ho⟩ := h
  refine .inr ⟨_, _, rfl, fun i hi => ?_⟩
  unfold getc
  simp only [ho]
  rw [if_pos ⟨trivial, by rw [List.length_append, flat_length]; omega⟩, Nat.zero_add, flat_get ss i hi rest]
theorem OwnSyms.front {H : Heap} {b t : Nat} {v : Value} {ss : List (ByteArray × Int)} (h : OwnSyms H b t v ss) : FrontOk H v ss.length := by
  obtain ⟨rfl, rest, ho⟩ := h
  exact .inr ⟨_, _, _, rfl, Nat.le_refl _, ho, rfl, .inr rfl⟩
theorem OwnSyms.take {H : Heap} {b t k : Nat} {v : Value} {ss : List (ByteArray × Int)} (h : OwnSyms H b t v ss) (hk : k ≤ ss.length) : aSlice Try.prog H 24 v none (some (.int .i64 k)) none = some (.slice (some ⟨b, 0, some t⟩) k k) ∧ OwnSyms H b t (.slice (some ⟨b, 0, some t⟩) k k) (ss.take k) := by
  have hlen : (ss.take k).length = k := by rw [List.length_take]; omega
  obtain ⟨rfl, rest, ho⟩ := h
  refine ⟨?_, by rw [hlen], flat (ss.drop k) ++ rest, ?_⟩
  · have := aSlice_tagged (P := Try.prog) (H := H) (t := 24) (el := 40) (sz := 2) (a := ⟨b, 0, some t⟩) (cap := ss.length) (lo := none) (by exact rfl) (by exact rfl) ho rfl rfl rfl (.inl ⟨rfl, rfl⟩) (.inr ⟨.i64, rfl⟩ : Bd (some (.int .i64 k)) ss.length k) (Nat.zero_le _) hk
    simpa using this
  · rw [ho, ← List.append_assoc, ← flat_append, List.take_append_drop]
theorem OwnSyms.ext {nx nx' b t : Nat} {H H' : Heap} {v : Value} {ss : List (ByteArray × Int)} (hx : Ext nx H nx' H') (hb : b < nx) (h : OwnSyms H b t v ss) : OwnSyms H' b t v ss := by
  obtain ⟨h1, rest, ho⟩ := h
  exact ⟨h1, rest, by rw [hx.2 b hb]; exact ho⟩

theorem aop_append_first {ev : Operand → Option Value} {H : Heap} {nx : Nat} {dst : Option Tmp} {type : TypeId} {pos : String} {after : Array Edge} {guard : Option (Nat × Bool)} {x y : Operand} {b m c : Nat} {o : List Value} {e : Nat} {ro : Bool} {q : Option TypeId} {a2 : Addr} {xs : List Value} {st el : TypeId} {z : List Value} {sz bytes : Nat}
    (hx : ev x = some (.slice (some ⟨b, 0, none⟩) 0 0)) (hy : ev y = some (.slice (some a2) m c)) (hH : H b = some (.cells o e none ro q)) (hs : getc H a2 (m * sz) = some xs) (h1 : xs.all (·.oneCell') = true) (hm : 0 < m) (hsz0 : 0 < sz)
    (hst : Try.prog.underlying st = some (.slice el)) (hsz : szOf Try.prog el = some sz) (hby : bytesOfT Try.prog el = some bytes) (hz : zeroOf Try.prog el = some z) (hzl : z.length = sz) (hle : m ≤ 1099511627776) (hle2 : (2 * m + 192) * bytes ≤ 281474976710656) :
    aop Try.prog H nx ev ⟨dst, .call ⟨.builtin .append, #[x, y], #[st, st]⟩, type, pos, after, guard⟩ = some (.slice (some ⟨nx, 0, some nx⟩) m m, .new (.cells xs sz (some nx) false (some el))) := by
  have hsrc : source H sz (.slice (some a2) m c) none = some (m, xs) := by
    have : m * sz ≠ 0 := by have := Nat.mul_pos hm hsz0; omega
    simp [source, cut, this, hs]
  have hg0 : getc H ⟨b, 0, none⟩ 0 = some [] := by simp [getc, hH]
  have hn : ¬ m ≤ 0 := by omega
  have hne : m ≠ 0 := by omega
  have hap : aAppend Try.prog H nx #[st, st] (.slice (some ⟨b, 0, none⟩) 0 0) (.slice (some a2) m c) = some (.slice (some ⟨nx, 0, some nx⟩) m m, .new (.cells xs sz (some nx) false (some el))) := by
    unfold aAppend
    simp only [List.getElem?_toArray, List.getElem?_cons_zero, List.getElem?_cons_succ, hst, hsz, hby, hz, notInt, hzl, and_self, if_true, hsrc, h1, hH, hne, false_and, if_false, Nat.zero_add, hn, hle, hle2, Nat.zero_mul, hg0, Option.map_some, List.nil_append]
  simp [aop, hx, hy, evAll, aBuiltin, hap]

theorem ok_set {nx k : Nat} {H : Heap} {o : AObj} (hok : ∀ id o, H id = some o → id < nx) (hk : k < nx) : ∀ id o', (H.put k o) id = some o' → id < nx := by
  intro id o' h
  by_cases e : id = k
  · omega
  · rw [Heap.put_ne e] at h
    exact hok _ _ h
theorem names_set {ss : List (ByteArray × Int)} {i : Nat} {x : ByteArray × Int} (h : ∀ s ∈ ss, (bs s.1).length ≤ 30) (hx : (bs x.1).length ≤ 30) : ∀ s ∈ ss.set i x, (bs s.1).length ≤ 30 := by
  intro s hs
  rcases List.mem_or_eq_of_mem_set hs with h1 | rfl
  · exact h s h1
  · exact hx

theorem entersWCheck : Enters Try.prog 23 := ⟨Try.f23, Try.func23, by kernel_rfl, by kernel_rfl⟩

/-- What is kept while the symbols are turned. -/
def Kept (n : Nat) (k kd more : Int) (len : Nat) (s : ASt) : Prop :=
  ∃ (tm : Nat → Value) (nx' : Nat) (H' : Heap) (b t : Nat) (v : Value) (ss : List (ByteArray × Int)), s = ⟨tm, n, H', nx'⟩ ∧ (∀ id o, H' id = some o → id < nx') ∧ b < nx' ∧ OwnSyms H' b t v ss ∧ ss.length = len ∧ (∀ s ∈ ss, (bs s.1).length ≤ 30) ∧ tm 13 = v ∧ tm 14 = .int .i64 k ∧ tm 4 = .int .i64 kd ∧ tm 5 = .int .i64 more

set_option maxRecDepth 20000 in
set_option maxHeartbeats 8000000 in
theorem law (W0 : World) {nx : Nat} {H : Heap} {m at_ kd more : Int} {name : ByteArray} {nv : Value} {ns : List Int} (hn : IntsAt H nv ns) : ACalls Try.prog W0 5 [.int .i64 m, nv, .int .i64 at_, .string name, .int .i64 kd, .int .i64 more] nx H fun v _ _ => v = .bool true := by
  obtain ⟨na, nc, rfl⟩ := hn.slice
  refine ACalls.by_trip (fn := Try.f5) (c := _) Try.func5 rfl (fun tm n hn0 htm => ?_)
  have e0 : tm 0 = .int .i64 m := htm 0
  have e1 : tm 1 = .slice na ns.length nc := htm 1
  have e2 : tm 2 = .int .i64 at_ := htm 2
  have e3 : tm 3 = .string name := htm 3
  have e4 : tm 4 = .int .i64 kd := htm 4
  have e5 : tm 5 = .int .i64 more := htm 5
  clear htm
  replace hn0 : n = 86 := hn0
  refine Trip.ok fun hok => ?_
  replace hok : ∀ id o, H id = some o → id < nx := hok
  repeat (first | (refine OpsL.p (by subst_vars; decide) (by (first | (exact aop_assign (by (first | (simp only [ASt.ev, tmPut, ↓reduceIte, reduceIte, Nat.reduceEqDiff, plain1, *]; rfl) | fail))) | fail)) ?_) | (refine Trip.seq ?_) | (refine Trip.ops ?_) | (refine OpsL.nil ?_; ((repeat (first | refine blockExit_eq ?_ | refine blockExit_ne (by decide) ?_ | refine blockExit_normal ?_ | refine blockExit_ret ?_ | refine blockExit_goto ?_)); first | (change Trip _ _ _ _ _) | dsimp only | skip)) | fail)
  refine OpsL.call0 (by subst_vars; decide) entersKnown ((known_told W0).2 nx H) ?_
  rintro v nx0 H0 ⟨rfl, rfl, rfl⟩
  dsimp only
  repeat (first | (refine OpsL.p (by subst_vars; decide) (by (first | (exact aop_not (by (first | (simp only [ASt.ev, tmPut, ↓reduceIte, reduceIte, Nat.reduceEqDiff, plain1, *]; rfl) | fail))) | fail)) ?_) | (refine OpsL.nil ?_; ((repeat (first | refine blockExit_eq ?_ | refine blockExit_ne (by decide) ?_ | refine blockExit_normal ?_ | refine blockExit_ret ?_ | refine blockExit_goto ?_)); first | (change Trip _ _ _ _ _) | dsimp only | skip)) | fail)
  refine Trip.iteB (b := false) (by (first | (simp only [ASt.ev, tmPut, ↓reduceIte, reduceIte, Nat.reduceEqDiff, decide_true, decide_false, not_true_eq_false, not_false_eq_true, Bool.not_true, Bool.not_false, *]; done) | fail)) (fun h => absurd h (by decide)) (fun _ => ?_)
  repeat' (first | (refine OpsL.p (by subst_vars; decide) (by (first | (exact aop_move (by (first | (simp only [ASt.ev, tmPut, ↓reduceIte, reduceIte, Nat.reduceEqDiff, plain1, *]; rfl) | fail))) | (exact aop_assign (by (first | (simp only [ASt.ev, tmPut, ↓reduceIte, reduceIte, Nat.reduceEqDiff, plain1, *]; rfl) | fail))) | (exact aop_gtr (by (first | (simp only [ASt.ev, tmPut, ↓reduceIte, reduceIte, Nat.reduceEqDiff, plain1, *]; rfl) | fail)) (by (first | (simp only [ASt.ev, tmPut, ↓reduceIte, reduceIte, Nat.reduceEqDiff, plain1, *]; rfl) | fail))) | (exact aop_lenB (by (first | (simp only [ASt.ev, tmPut, ↓reduceIte, reduceIte, Nat.reduceEqDiff, plain1, *]; rfl) | fail)) (by exact rfl)) | fail)) ?_) | (refine Trip.seq ?_) | (refine Trip.ops ?_) | (refine Trip.ite (by (first | (simp only [ASt.ev, tmPut, ↓reduceIte, reduceIte, Nat.reduceEqDiff, plain1, *]; rfl) | fail)) (fun _ => ?_) (fun _ => ?_)) | (refine Trip.skip ?_; ((repeat (first | refine blockExit_eq ?_ | refine blockExit_ne (by decide) ?_ | refine blockExit_normal ?_ | refine blockExit_ret ?_ | refine blockExit_goto ?_)); first | (change Trip _ _ _ _ _) | dsimp only | skip)) | (refine Trip.ret ?_; ((repeat (first | refine blockExit_eq ?_ | refine blockExit_ne (by decide) ?_ | refine blockExit_normal ?_ | refine blockExit_ret ?_ | refine blockExit_goto ?_)); first | (change Trip _ _ _ _ _) | dsimp only | skip)) | (refine OpsL.nil ?_; ((repeat (first | refine blockExit_eq ?_ | refine blockExit_ne (by decide) ?_ | refine blockExit_normal ?_ | refine blockExit_ret ?_ | refine blockExit_goto ?_)); first | (change Trip _ _ _ _ _) | dsimp only | skip)) | fail)
  · exact ⟨.inr rfl, _, res_tmp, by simp [tmPut]⟩
  · rename_i hname
    refine OpsL.new (o := .cells [] 2 none false (some 40)) (v := .slice (some ⟨nx0, 0, none⟩) 0 0) (by subst_vars; decide) (aop_buildSlice (l := []) (by exact rfl) (by exact rfl)) ?_
    have hx1 : Ext nx0 H0 (nx0 + 1) (H0.put nx0 (.cells [] 2 none false (some 40))) := ext_put
    have hok1 := ok_put (o := .cells [] 2 none false (some 40)) hok (show nx0 < nx0 + 1 by omega)
    have hm0 : (H0.put nx0 (.cells [] 2 none false (some 40))) nx0 = some (.cells [] 2 none false (some 40)) := Heap.put_eq
    have hn1 := hn.ext hx1 hok
    generalize H0.put nx0 (.cells [] 2 none false (some 40)) = H1 at *
    repeat (first | (refine OpsL.p (by subst_vars; decide) (by (first | (exact aop_move (by (first | (simp only [ASt.ev, tmPut, ↓reduceIte, reduceIte, Nat.reduceEqDiff, plain1, *]; rfl) | fail))) | fail)) ?_) | fail)
    refine OpsL.call2 (by subst_vars; decide) (by (first | (simp only [ASt.ev, tmPut, ↓reduceIte, reduceIte, Nat.reduceEqDiff, plain1, *]; rfl) | fail)) (by (first | (simp only [ASt.ev, tmPut, ↓reduceIte, reduceIte, Nat.reduceEqDiff, plain1, *]; done) | fail)) entersSyms (symsC W0 hn1).ok ?_
    rintro lv nx2 H2 ⟨⟨hl, hx2⟩, hok2⟩
    obtain ⟨g1, g2, g3⟩ := symsF_good m ns
    have gb : ∀ s ∈ symsF m ns, (bs s.1).length ≤ 30 := by
      have hb7 : ∀ s ∈ baseF, (bs s.1).length ≤ 30 := by decide
      have key : ∀ s ∈ symsF m ns, s ∈ baseF ∨ s ∈ [((⟨#[98]⟩ : ByteArray), (3 : Int)), (⟨#[97]⟩, 2), (⟨#[97]⟩, 1)] := by
        intro s hs
        unfold symsF at hs
        split at hs
        · exact .inr hs
        · split at hs
          · split at hs
            · exact .inl (List.mem_of_mem_drop (List.mem_of_mem_take hs))
            · exact .inl (List.mem_of_mem_take hs)
          · exact .inl (List.mem_of_mem_take hs)
      intro s hs
      rcases key s hs with h | h
      · exact hb7 s h
      · have h3 : ∀ s ∈ [((⟨#[98]⟩ : ByteArray), (3 : Int)), (⟨#[97]⟩, 2), (⟨#[97]⟩, 1)], (bs s.1).length ≤ 30 := by decide
        exact h3 s h
    generalize symsF m ns = ss at *
    have hm2 : H2 nx0 = some (.cells [] 2 none false (some 40)) := by rw [hx2.2 _ (by omega)]; exact hm0
    obtain ⟨la, lc, rfl, hlg⟩ := hl
    have hall := (SymsAt.all (a := la) (c := lc) (n := ss.length) ⟨la, lc, rfl, hlg⟩ g1).2
    refine OpsL.new (o := .cells (flat ss) 2 (some nx2) false (some 40)) (v := .slice (some ⟨nx2, 0, some nx2⟩) ss.length ss.length) (by subst_vars; decide) (aop_append_first (sz := 2) (bytes := 24) (b := nx0) (z := [.string .empty, .int .i64 0]) (by (first | (simp only [ASt.ev, tmPut, ↓reduceIte, reduceIte, Nat.reduceEqDiff, plain1, *]; done) | fail)) (by (first | (simp only [ASt.ev, tmPut, ↓reduceIte, reduceIte, Nat.reduceEqDiff, plain1, *]; rfl) | fail)) hm2 hall (flat_all ss) g1 (by omega) (by exact rfl) (by exact rfl) (by exact rfl) (by exact rfl) rfl (by omega) (by omega)) ?_
    have hown : OwnSyms (H2.put nx2 (.cells (flat ss) 2 (some nx2) false (some 40))) nx2 nx2 (.slice (some ⟨nx2, 0, some nx2⟩) ss.length ss.length) ss := ⟨rfl, [], by rw [Heap.put_eq, List.append_nil]⟩
    have hok3 := ok_put (o := .cells (flat ss) 2 (some nx2) false (some 40)) hok2 (show nx2 < nx2 + 1 by omega)
    generalize H2.put nx2 (.cells (flat ss) 2 (some nx2) false (some 40)) = H3 at *
    repeat (first | (refine OpsL.p (by subst_vars; decide) (by (first | (exact aop_move (by (first | (simp only [ASt.ev, tmPut, ↓reduceIte, reduceIte, Nat.reduceEqDiff, plain1, *]; rfl) | fail))) | (exact aop_assign (by (first | (simp only [ASt.ev, tmPut, ↓reduceIte, reduceIte, Nat.reduceEqDiff, plain1, *]; rfl) | fail))) | (exact aop_len (by (first | (simp only [ASt.ev, tmPut, ↓reduceIte, reduceIte, Nat.reduceEqDiff, plain1, *]; rfl) | fail)) (by exact rfl)) | fail)) ?_) | (refine Trip.seq ?_) | (refine Trip.ops ?_) | (refine OpsL.nil ?_; ((repeat (first | refine blockExit_eq ?_ | refine blockExit_ne (by decide) ?_ | refine blockExit_normal ?_ | refine blockExit_ret ?_ | refine blockExit_goto ?_)); first | (change Trip _ _ _ _ _) | dsimp only | skip)) | fail)
    refine OpsL.call2 (by subst_vars; decide) (by (first | (simp only [ASt.ev, tmPut, ↓reduceIte, reduceIte, Nat.reduceEqDiff, plain1, *]; rfl) | fail)) (by (first | (simp only [ASt.ev, tmPut, ↓reduceIte, reduceIte, Nat.reduceEqDiff, plain1, *]; rfl) | fail)) entersWithin (withinC W0 _ _ (by omega) (by omega)) ?_
    rintro v nx4 H4 ⟨rfl, rfl, rfl⟩
    have c0 := Int.emod_nonneg at_ (by omega : (ss.length : Int) ≠ 0)
    have c1 := Int.emod_lt_of_pos at_ (by omega : (0 : Int) < (ss.length : Int))
    generalize hk : at_ % (ss.length : Int) = k at *
    repeat (first | (refine OpsL.p (by subst_vars; decide) (by (first | (exact aop_move (by (first | (simp only [ASt.ev, tmPut, ↓reduceIte, reduceIte, Nat.reduceEqDiff, plain1, *]; rfl) | fail))) | (exact aop_assign (by (first | (simp only [ASt.ev, tmPut, ↓reduceIte, reduceIte, Nat.reduceEqDiff, plain1, *]; rfl) | fail))) | fail)) ?_) | (refine Trip.seq ?_) | (refine Trip.ops ?_) | (refine OpsL.nil ?_; ((repeat (first | refine blockExit_eq ?_ | refine blockExit_ne (by decide) ?_ | refine blockExit_normal ?_ | refine blockExit_ret ?_ | refine blockExit_goto ?_)); first | (change Trip _ _ _ _ _) | dsimp only | skip)) | fail)
    refine OpsL.call2 (by subst_vars; decide) (by (first | (simp only [ASt.ev, tmPut, ↓reduceIte, reduceIte, Nat.reduceEqDiff, plain1, *]; rfl) | fail)) (by (first | (simp only [ASt.ev, tmPut, ↓reduceIte, reduceIte, Nat.reduceEqDiff, plain1, *]; rfl) | fail)) entersWithin (withinC W0 _ _ (by omega) (by omega)) ?_
    rintro v nx5 H5 ⟨rfl, rfl, rfl⟩
    refine OpsL.p (by subst_vars; decide) (aop_eql (by (first | (simp only [ASt.ev, tmPut, ↓reduceIte, reduceIte, Nat.reduceEqDiff, plain1, *]; rfl) | fail)) (by (first | (simp only [ASt.ev, tmPut, ↓reduceIte, reduceIte, Nat.reduceEqDiff, plain1, *]; rfl) | fail))) ?_
    refine OpsL.nil ?_
    ((repeat (first | refine blockExit_eq ?_ | refine blockExit_ne (by decide) ?_ | refine blockExit_normal ?_ | refine blockExit_ret ?_ | refine blockExit_goto ?_)); first | (change Trip _ _ _ _ _) | dsimp only | skip)
    refine Trip.mono (Q := fun e s => e = .normal ∧ Kept n k kd more ss.length s) ?_ ?_
    · obtain ⟨hv, rest, ho⟩ := hown
      repeat' (first | (refine OpsL.p (by subst_vars; decide) (by (first | (exact aop_move (by (first | (simp only [ASt.ev, tmPut, ↓reduceIte, reduceIte, Nat.reduceEqDiff, plain1, *]; rfl) | fail))) | (exact aop_indexAddr (by (first | (simp only [ASt.ev, tmPut, ↓reduceIte, reduceIte, Nat.reduceEqDiff, plain1, *]; rfl) | fail)) (by (first | (simp only [ASt.ev, tmPut, ↓reduceIte, reduceIte, Nat.reduceEqDiff, plain1, *]; rfl) | fail)) (by exact rfl) (by exact rfl) (by omega) (by omega)) | (exact aop_fieldAddr (by (first | (simp only [ASt.ev, tmPut, ↓reduceIte, reduceIte, Nat.reduceEqDiff, plain1, *]; rfl) | fail)) (by exact rfl)) | fail)) ?_) | (refine Trip.ops ?_) | (refine Trip.ite (by (first | (simp only [ASt.ev, tmPut, ↓reduceIte, reduceIte, Nat.reduceEqDiff, plain1, *]; rfl) | fail)) (fun _ => ?_) (fun _ => ?_)) | (refine Trip.skip ?_; ((repeat (first | refine blockExit_eq ?_ | refine blockExit_ne (by decide) ?_ | refine blockExit_normal ?_ | refine blockExit_ret ?_ | refine blockExit_goto ?_)); first | (change Trip _ _ _ _ _) | dsimp only | skip)) | fail)
      · refine OpsL.storeAt (k.toNat * 2) (by (first | (simp only [ASt.ev, tmPut, ↓reduceIte, reduceIte, Nat.reduceEqDiff, plain1, *]; rfl) | fail)) (by (first | (simp only [ASt.ev, tmPut, ↓reduceIte, reduceIte, Nat.reduceEqDiff, plain1, *]; done) | fail)) (by exact rfl) rfl rfl ho (by show 0 + _ * 2 + 0 = _; omega) (by rw [List.length_append, flat_length]; omega) (flat_set0 ss k.toNat (by omega) rest name) ?_
        repeat (first | (refine OpsL.nil ?_; ((repeat (first | refine blockExit_eq ?_ | refine blockExit_ne (by decide) ?_ | refine blockExit_normal ?_ | refine blockExit_ret ?_ | refine blockExit_goto ?_)); first | (change Trip _ _ _ _ _) | dsimp only | skip)) | fail)
        exact ⟨rfl, _, _, _, nx2, nx2, _, ss.set k.toNat (name, ss[k.toNat].2), rfl, ok_set hok3 (by omega), by omega, ⟨by rw [List.length_set], rest, Heap.put_eq⟩, List.length_set, names_set gb (by simp only; omega), by simp [tmPut], by simp [tmPut], by simp [tmPut, *], by simp [tmPut, *]⟩
      · exact ⟨rfl, _, _, _, nx2, nx2, _, ss, rfl, hok3, by omega, ⟨rfl, rest, ho⟩, rfl, gb, by simp [tmPut], by simp [tmPut], by simp [tmPut, *], by simp [tmPut, *]⟩
    rintro e s ⟨rfl, tm2, nx5, H5, b5, t5, v5, ss5, rfl, hok5, hb5, hown5, hlen5, gb5, q13, q14, q4, q5⟩
    dsimp only
    obtain ⟨rfl, hrest5⟩ := id hown5
    repeat (first | (refine OpsL.p (by subst_vars; decide) (by (first | (exact aop_move (by (first | (simp only [ASt.ev, tmPut, ↓reduceIte, reduceIte, Nat.reduceEqDiff, plain1, *]; rfl) | fail))) | fail)) ?_) | (refine Trip.seq ?_) | (refine Trip.ops ?_) | fail)
    refine OpsL.call2 (by subst_vars; decide) (by (first | (simp only [ASt.ev, tmPut, ↓reduceIte, reduceIte, Nat.reduceEqDiff, plain1, *]; rfl) | fail)) (by (first | (simp only [ASt.ev, tmPut, ↓reduceIte, reduceIte, Nat.reduceEqDiff, plain1, *]; rfl) | fail)) entersWithin (withinC W0 _ _ (by omega) (by omega)) ?_
    rintro v nx6 H6 ⟨rfl, rfl, rfl⟩
    refine OpsL.p (by subst_vars; decide) (aop_eql (by (first | (simp only [ASt.ev, tmPut, ↓reduceIte, reduceIte, Nat.reduceEqDiff, plain1, *]; rfl) | fail)) (by (first | (simp only [ASt.ev, tmPut, ↓reduceIte, reduceIte, Nat.reduceEqDiff, plain1, *]; rfl) | fail))) ?_
    refine OpsL.nil ?_
    ((repeat (first | refine blockExit_eq ?_ | refine blockExit_ne (by decide) ?_ | refine blockExit_normal ?_ | refine blockExit_ret ?_ | refine blockExit_goto ?_)); first | (change Trip _ _ _ _ _) | dsimp only | skip)
    refine Trip.mono (Q := fun e s => e = .normal ∧ Kept n k kd more ss.length s) ?_ ?_
    · obtain ⟨rest, ho⟩ := hrest5
      repeat' (first | (refine OpsL.p (by subst_vars; decide) (by (first | (exact aop_move (by (first | (simp only [ASt.ev, tmPut, ↓reduceIte, reduceIte, Nat.reduceEqDiff, plain1, *]; rfl) | fail))) | fail)) ?_) | (refine Trip.ops ?_) | (refine Trip.ite (by (first | (simp only [ASt.ev, tmPut, ↓reduceIte, reduceIte, Nat.reduceEqDiff, plain1, *]; rfl) | fail)) (fun _ => ?_) (fun _ => ?_)) | (refine Trip.skip ?_; ((repeat (first | refine blockExit_eq ?_ | refine blockExit_ne (by decide) ?_ | refine blockExit_normal ?_ | refine blockExit_ret ?_ | refine blockExit_goto ?_)); first | (change Trip _ _ _ _ _) | dsimp only | skip)) | fail)
      · have d0 := Int.emod_nonneg kd (by omega : (7 : Int) ≠ 0)
        have d1 := Int.emod_lt_of_pos kd (by omega : (0 : Int) < 7)
        refine OpsL.new (o := .cells ([-1, 0, 1, 2, 3, 4, kd].map (.int .i64 ·)) 1 none false (some 3)) (v := .slice (some ⟨nx6, 0, none⟩) 7 7) (by subst_vars; decide) (aop_buildSlice (l := [(0, .int .i64 (-1)), (1, .int .i64 0), (2, .int .i64 1), (3, .int .i64 2), (4, .int .i64 3), (5, .int .i64 4), (6, .int .i64 kd)]) (by simp only [evParts, ASt.ev, tmPut, ↓reduceIte, reduceIte, Option.some.injEq, Nat.reduceEqDiff, plain1, *]) (by exact rfl)) ?_
        repeat (first | (refine OpsL.p (by subst_vars; decide) (by (first | (exact aop_move (by (first | (simp only [ASt.ev, tmPut, ↓reduceIte, reduceIte, Nat.reduceEqDiff, plain1, *]; rfl) | fail))) | fail)) ?_) | fail)
        refine OpsL.call2 (by subst_vars; decide) (by (first | (simp only [ASt.ev, tmPut, ↓reduceIte, reduceIte, Nat.reduceEqDiff, plain1, *]; rfl) | fail)) (by (first | (simp only [ASt.ev, tmPut, ↓reduceIte, reduceIte, Nat.reduceEqDiff, plain1, *]; rfl) | fail)) entersWithin (withinC W0 _ _ (by omega) (by omega)) ?_
        rintro v nx7 H7 ⟨rfl, h7, h8⟩
        subst h7; subst h8
        have hck : cellAt (H6.put nx6 (.cells ([-1, 0, 1, 2, 3, 4, kd].map (.int .i64 ·)) 1 none false (some 3))) ⟨nx6, 0 + (kd % 7).toNat * 1, none⟩ (.int .i64 ([-1, 0, 1, 2, 3, 4, kd].getD (kd % 7).toNat 0)) := by
          have := cellAt_own (off := (kd % 7).toNat) (H := H6.put nx6 (.cells ([-1, 0, 1, 2, 3, 4, kd].map (Value.int .i64 ·)) 1 none false (some 3))) Heap.put_eq (by simp; omega)
          simp only [List.getElem_map] at this
          rw [List.getD_eq_getElem?_getD, List.getElem?_eq_getElem (by simp; omega)]
          simpa using this
        have ho2 : (H6.put nx6 (.cells ([-1, 0, 1, 2, 3, 4, kd].map (.int .i64 ·)) 1 none false (some 3))) b5 = some (.cells (flat ss5 ++ rest) 2 (some t5) false (some 40)) := by rw [Heap.put_ne (by omega)]; exact ho
        have hok6 := ok_put (o := .cells ([-1, 0, 1, 2, 3, 4, kd].map (.int .i64 ·)) 1 none false (some 3)) hok5 (show nx6 < nx6 + 1 by omega)
        generalize H6.put nx6 (.cells ([-1, 0, 1, 2, 3, 4, kd].map (.int .i64 ·)) 1 none false (some 3)) = H7 at *
        generalize [-1, 0, 1, 2, 3, 4, kd].getD (kd % 7).toNat 0 = newk at *
        repeat (first | (refine OpsL.p (by subst_vars; decide) (by (first | (exact aop_indexAddr (by (first | (simp only [ASt.ev, tmPut, ↓reduceIte, reduceIte, Nat.reduceEqDiff, plain1, *]; rfl) | fail)) (by (first | (simp only [ASt.ev, tmPut, ↓reduceIte, reduceIte, Nat.reduceEqDiff, plain1, *]; rfl) | fail)) (by exact rfl) (by exact rfl) (by omega) (by omega)) | (exact aop_fieldAddr (by (first | (simp only [ASt.ev, tmPut, ↓reduceIte, reduceIte, Nat.reduceEqDiff, plain1, *]; rfl) | fail)) (by exact rfl)) | (exact aop_load (by (first | (simp only [ASt.ev, tmPut, ↓reduceIte, reduceIte, Nat.reduceEqDiff, plain1, *]; rfl) | fail)) (by exact rfl) rfl (by assumption)) | fail)) ?_) | fail)
        refine OpsL.storeAt (k.toNat * 2 + 1) (by (first | (simp only [ASt.ev, tmPut, ↓reduceIte, reduceIte, Nat.reduceEqDiff, plain1, *]; rfl) | fail)) (by (first | (simp only [ASt.ev, tmPut, ↓reduceIte, reduceIte, Nat.reduceEqDiff, plain1, *]; done) | fail)) (by exact rfl) rfl rfl ho2 (by show 0 + _ * 2 + 1 = _; omega) (by rw [List.length_append, flat_length]; omega) (flat_set1 ss5 k.toNat (by omega) rest newk) ?_
        repeat (first | (refine OpsL.nil ?_; ((repeat (first | refine blockExit_eq ?_ | refine blockExit_ne (by decide) ?_ | refine blockExit_normal ?_ | refine blockExit_ret ?_ | refine blockExit_goto ?_)); first | (change Trip _ _ _ _ _) | dsimp only | skip)) | fail)
        exact ⟨rfl, _, _, _, b5, t5, _, ss5.set k.toNat (ss5[k.toNat].1, newk), rfl, ok_set hok6 (by omega), by omega, ⟨by rw [List.length_set], rest, Heap.put_eq⟩, by rw [List.length_set]; exact hlen5, names_set gb5 (by exact gb5 ss5[k.toNat] (List.getElem_mem _)), by simp [tmPut, *], by simp [tmPut, *], by simp [tmPut, *], by simp [tmPut, *]⟩
      · exact ⟨rfl, _, _, _, b5, t5, _, ss5, rfl, hok5, hb5, ⟨rfl, rest, ho⟩, hlen5, gb5, by simp [tmPut, *], by simp [tmPut, *], by simp [tmPut, *], by simp [tmPut, *]⟩
    clear hown5 hrest5
    rintro e s ⟨rfl, tm7, nx7, H7, b7, t7, v7, ss7, rfl, hok7, hb7, hown7, hlen7, gb7, r13, r14, r4, r5⟩
    dsimp only
    repeat (first | (refine OpsL.p (by subst_vars; decide) (by (first | (exact aop_assign (by (first | (simp only [ASt.ev, tmPut, ↓reduceIte, reduceIte, Nat.reduceEqDiff, plain1, *]; rfl) | fail))) | fail)) ?_) | (refine Trip.seq ?_) | (refine Trip.ops ?_) | (refine Trip.block ?_) | (refine OpsL.nil ?_; ((repeat (first | refine blockExit_eq ?_ | refine blockExit_ne (by decide) ?_ | refine blockExit_normal ?_ | refine blockExit_ret ?_ | refine blockExit_goto ?_)); first | (change Trip _ _ _ _ _) | dsimp only | skip)) | fail)
    have w0 := Int.emod_nonneg more (by omega : (20 : Int) ≠ 0)
    have w1 := Int.emod_lt_of_pos more (by omega : (0 : Int) < 20)
    refine Trip.inv (fun (i : Nat) s => ∃ (tm : Nat → Value) (nx' : Nat) (H' : Heap) (b t : Nat) (v : Value) (ss8 : List (ByteArray × Int)), s = ⟨tm, n, H', nx'⟩ ∧ (∀ id o, H' id = some o → id < nx') ∧ b < nx' ∧ OwnSyms H' b t v ss8 ∧ ss8.length = ss.length + i ∧ (∀ s ∈ ss8, (bs s.1).length ≤ 30) ∧
      tm 13 = v ∧ tm 14 = .int .i64 k ∧ tm 5 = .int .i64 more ∧ tm 15 = .int .i64 i ∧ i ≤ 20) (fun i => 20 - i) 0 ?_ ?_
    · exact ⟨_, _, _, b7, t7, v7, ss7, rfl, hok7, hb7, hown7, hlen7, gb7, by simp [tmPut, *], by simp [tmPut, *], by simp [tmPut, *], by simp [tmPut], by omega⟩
    · rintro i s ⟨tm8, nx8, H8, b8, t8, v8, ss8, rfl, hok8, hb8, hown8, hlen8, gb8, s13, s14, s5, s15, hi20⟩
      obtain ⟨rfl, hrest8⟩ := id hown8
      have hrow8 : OwnRow H8 (some (b8, t8)) 40 2 (.slice (some ⟨b8, 0, some t8⟩) ss8.length ss8.length) (flat ss8) ss8.length := ⟨rfl, flat_length ss8, hrest8⟩
      repeat (first | (refine OpsL.p (by subst_vars; decide) (by (first | (exact aop_move (by (first | (simp only [ASt.ev, tmPut, ↓reduceIte, reduceIte, Nat.reduceEqDiff, plain1, *]; rfl) | fail))) | fail)) ?_) | (refine Trip.seq ?_) | (refine Trip.ops ?_) | fail)
      refine OpsL.call2 (by subst_vars; decide) (by (first | (simp only [ASt.ev, tmPut, ↓reduceIte, reduceIte, Nat.reduceEqDiff, plain1, *]; rfl) | fail)) (by (first | (simp only [ASt.ev, tmPut, ↓reduceIte, reduceIte, Nat.reduceEqDiff, plain1, *]; rfl) | fail)) entersWithin (withinC W0 _ _ (by omega) (by omega)) ?_
      rintro v nx9 H9 ⟨rfl, h7, h8⟩
      subst h7; subst h8
      repeat (first | (refine OpsL.p (by subst_vars; decide) (by (first | (exact aop_move (by (first | (simp only [ASt.ev, tmPut, ↓reduceIte, reduceIte, Nat.reduceEqDiff, plain1, *]; rfl) | fail))) | (exact aop_lss (by (first | (simp only [ASt.ev, tmPut, ↓reduceIte, reduceIte, Nat.reduceEqDiff, plain1, *]; rfl) | fail)) (by (first | (simp only [ASt.ev, tmPut, ↓reduceIte, reduceIte, Nat.reduceEqDiff, plain1, *]; rfl) | fail))) | (exact aop_add (by (first | (simp only [ASt.ev, tmPut, ↓reduceIte, reduceIte, Nat.reduceEqDiff, plain1, *]; rfl) | fail)) (by (first | (simp only [ASt.ev, tmPut, ↓reduceIte, reduceIte, Nat.reduceEqDiff, plain1, *]; rfl) | fail)) (by omega)) | (exact aop_conv (by (first | (simp only [ASt.ev, tmPut, ↓reduceIte, reduceIte, Nat.reduceEqDiff, plain1, *]; rfl) | fail)) (by exact rfl) (by exact rfl)) | fail)) ?_) | (refine Trip.seq ?_) | (refine Trip.ops ?_) | (refine Trip.block ?_) | (refine Trip.ite (by (first | (simp only [ASt.ev, tmPut, ↓reduceIte, reduceIte, Nat.reduceEqDiff, plain1, *]; rfl) | fail)) (fun _ => ?_) (fun _ => ?_)) | (refine Trip.skip ?_; ((repeat (first | refine blockExit_eq ?_ | refine blockExit_ne (by decide) ?_ | refine blockExit_normal ?_ | refine blockExit_ret ?_ | refine blockExit_goto ?_)); first | (change Trip _ _ _ _ _) | dsimp only | skip)) | (refine OpsL.nil ?_; ((repeat (first | refine blockExit_eq ?_ | refine blockExit_ne (by decide) ?_ | refine blockExit_normal ?_ | refine blockExit_ret ?_ | refine blockExit_goto ?_)); first | (change Trip _ _ _ _ _) | dsimp only | skip)) | fail)
      · rename_i hlt
        refine OpsL.new (o := .cells [.int .u8 (IntKind.u8.wrap (97 + (i : Int)))] 1 none false (some 5)) (v := .slice (some ⟨nx9, 0, none⟩) 1 1) (by subst_vars; decide) (aop_buildSlice (l := [(0, .int .u8 (IntKind.u8.wrap (97 + (i : Int))))]) (by simp only [evParts, ASt.ev, tmPut, ↓reduceIte, reduceIte, Option.some.injEq, Nat.reduceEqDiff, plain1, *]) (by exact rfl)) ?_
        refine OpsL.p (by subst_vars; decide) (aop_convBS (a := ⟨nx9, 0, none⟩) (len := 1) (cs := [.int .u8 (IntKind.u8.wrap (97 + (i : Int)))]) (by (first | (simp only [ASt.ev, tmPut, ↓reduceIte, reduceIte, Nat.reduceEqDiff, plain1, *]; rfl) | fail)) (by exact rfl) (by exact rfl) (by kernel_rfl) (by exact getc_own (by show 0 + 1 ≤ 1; decide)) rfl) ?_
        refine OpsL.p (by subst_vars; decide) (aop_addS (by (first | (simp only [ASt.ev, tmPut, ↓reduceIte, reduceIte, Nat.reduceEqDiff, plain1, *]; rfl) | fail)) (by (first | (simp only [ASt.ev, tmPut, ↓reduceIte, reduceIte, Nat.reduceEqDiff, plain1, *]; rfl) | fail)) (by show 1 + 1 ≤ 1000000000; decide)) ?_
        generalize hnm : (⟨((⟨#[110]⟩ : ByteArray).data.toList ++ (⟨([Value.int .u8 (IntKind.u8.wrap (97 + (i : Int)))].map u8of).toArray⟩ : ByteArray).data.toList).toArray⟩ : ByteArray) = nm
        have hnl : (bs nm).length ≤ 30 := by rw [← hnm]; show 2 ≤ 30; decide
        clear hnm
        repeat (first | (refine OpsL.p (by subst_vars; decide) (by (first | (exact aop_move (by (first | (simp only [ASt.ev, tmPut, ↓reduceIte, reduceIte, Nat.reduceEqDiff, plain1, *]; rfl) | fail))) | fail)) ?_) | fail)
        refine OpsL.p (by subst_vars; decide) (aop_rem (by (first | (simp only [ASt.ev, tmPut, ↓reduceIte, reduceIte, Nat.reduceEqDiff, plain1, *]; rfl) | fail)) (by (first | (simp only [ASt.ev, tmPut, ↓reduceIte, reduceIte, Nat.reduceEqDiff, plain1, *]; rfl) | fail)) (by decide)) ?_
        have hrem : (i : Int).tmod 3 = (i : Int) % 3 := by rw [Int.tmod_eq_emod_of_nonneg (by omega)]
        rw [hrem]
        repeat (first | (refine OpsL.p (by subst_vars; decide) (by (first | (exact aop_add (by (first | (simp only [ASt.ev, tmPut, ↓reduceIte, reduceIte, Nat.reduceEqDiff, plain1, *]; rfl) | fail)) (by (first | (simp only [ASt.ev, tmPut, ↓reduceIte, reduceIte, Nat.reduceEqDiff, plain1, *]; rfl) | fail)) (by omega)) | fail)) ?_) | fail)
        generalize hkk : (1 : Int) + (i : Int) % 3 = kk at *
        refine OpsL.p (by subst_vars; decide) (aop_build (v := .agg #[.string nm, .int .i64 kk]) (l := [(0, .string nm), (1, .int .i64 kk)]) (by simp only [evParts, ASt.ev, tmPut, ↓reduceIte, reduceIte, Option.some.injEq, Nat.reduceEqDiff, plain1, *]) (by exact rfl)) ?_
        refine OpsL.new (o := .cells [.string nm, .int .i64 kk] 2 none false (some 40)) (v := .slice (some ⟨nx9 + 1, 0, none⟩) 1 1) (by subst_vars; decide) (aop_buildSlice (l := [(0, .agg #[.string nm, .int .i64 kk])]) (by simp only [evParts, ASt.ev, tmPut, ↓reduceIte, reduceIte, Option.some.injEq, Nat.reduceEqDiff, plain1, *]) (by exact rfl)) ?_
        refine OpsL.append (ob := some (b8, t8)) (el := 40) (sz := 2) (bytes := 24) (k := ss8.length) (m := 1) (cs := flat ss8) (xs := [.string nm, .int .i64 kk]) (u := .slice (some ⟨nx9 + 1, 0, none⟩) 1 1) (z := [.string .empty, .int .i64 0]) (by subst_vars; decide) (by (first | (simp only [ASt.ev, tmPut, ↓reduceIte, reduceIte, Nat.reduceEqDiff, plain1, *]; done) | fail)) (by (first | (simp only [ASt.ev, tmPut, ↓reduceIte, reduceIte, Nat.reduceEqDiff, plain1, *]; done) | fail))
          (OwnRow.put_ne (OwnRow.put_ne hrow8 (fun b t hb => by cases hb; omega)) (fun b t hb => by cases hb; omega)) (source_own Heap.put_eq rfl (by decide)) rfl (by decide) (by exact rfl) (by exact rfl) rfl (by exact rfl) (by exact rfl) (by exact rfl) rfl (by omega) (by omega) ?_
        repeat (first | (refine OpsL.p (by subst_vars; decide) (by (first | (exact aop_move (by (first | (simp only [ASt.ev, tmPut, ↓reduceIte, reduceIte, Nat.reduceEqDiff, plain1, *]; rfl) | fail))) | (exact aop_assign (by (first | (simp only [ASt.ev, tmPut, ↓reduceIte, reduceIte, Nat.reduceEqDiff, plain1, *]; rfl) | fail))) | (exact aop_add (by (first | (simp only [ASt.ev, tmPut, ↓reduceIte, reduceIte, Nat.reduceEqDiff, plain1, *]; rfl) | fail)) (by (first | (simp only [ASt.ev, tmPut, ↓reduceIte, reduceIte, Nat.reduceEqDiff, plain1, *]; rfl) | fail)) (by omega)) | fail)) ?_) | (refine Trip.ops ?_) | (refine OpsL.nil ?_; ((repeat (first | refine blockExit_eq ?_ | refine blockExit_ne (by decide) ?_ | refine blockExit_normal ?_ | refine blockExit_ret ?_ | refine blockExit_goto ?_)); first | (change Trip _ _ _ _ _) | dsimp only | skip)) | fail)
        refine ⟨i + 1, ⟨_, _, _, b8, nx9 + 1 + 1, .slice (some ⟨blkOf (nx9 + 1 + 1) (some (b8, t8)), 0, some (nx9 + 1 + 1)⟩) (ss8.length + 1) (ss8.length + 1), ss8 ++ [(nm, kk)], rfl, ok_put (ok_put (ok_put hok8 (by omega)) (by omega)) (show b8 < nx9 + 1 + 1 + 1 by omega), by show b8 < nx9 + 1 + 1 + 1; omega, ⟨by rw [List.length_append]; rfl, [], ?_⟩, by rw [List.length_append, hlen8]; rfl, ?_, by simp [tmPut, blkOf, hlen8], by simp [tmPut, *], by simp [tmPut, *], by simp [tmPut, *], by omega⟩, by omega⟩
        · show (Heap.put _ b8 _) b8 = _
          rw [Heap.put_eq, List.append_nil, flat_append]; rfl
        · intro s hs
          rcases List.mem_append.1 hs with h | h
          · exact gb8 s h
          · simp only [List.mem_cons, List.not_mem_nil, or_false] at h; subst h; exact hnl
      · rename_i hlt
        repeat (first | (refine Trip.seq ?_) | (refine Trip.exit ?_; ((repeat (first | refine blockExit_eq ?_ | refine blockExit_ne (by decide) ?_ | refine blockExit_normal ?_ | refine blockExit_ret ?_ | refine blockExit_goto ?_)); first | (change Trip _ _ _ _ _) | dsimp only | skip)) | fail)
        obtain ⟨r1, i1, hr1⟩ := ChkFI.ex ss8
        obtain ⟨r2, i2, hr2⟩ := ChkFI.ex (ss8.take k.toNat)
        have hkl : k.toNat ≤ ss8.length := by omega
        have hkc : (k.toNat : Int) = k := by omega
        have gbt : ∀ s ∈ ss8.take k.toNat, (bs s.1).length ≤ 1000000 := fun s hs => by have := gb8 s (List.mem_of_mem_take hs); omega
        have hc1 := wordCheckC W0 (nx := nx9) hown8.at hown8.front (by omega) (fun s hs => by have := gb8 s hs; omega) hr1
        have hx1 := out_ext H9 nx9 ss8 r1 i1
        generalize outN nx9 r1 i1 = N1 at *
        generalize outH H9 nx9 ss8 r1 i1 = G1 at *
        have own1 := hown8.ext hx1 hb8
        have hc2 := refCheckC W0 (nx := N1) own1.at (fun s hs => by have := gb8 s hs; omega) (by omega) hr1.chk
        have hsl : ∀ (H' : Heap) (nx' : Nat), Ext nx9 H9 nx' H' → aSlice Try.prog H' 24 (.slice (some ⟨b8, 0, some t8⟩) ss8.length ss8.length) none (some (.int .i64 k)) none = some (.slice (some ⟨b8, 0, some t8⟩) k.toNat k.toNat) := fun H' nx' hx => by
          have := ((hown8.ext hx hb8).take hkl).1
          rwa [hkc] at this
        have ownt := (own1.take hkl).2
        have hc3 := wordCheckC W0 (nx := N1) ownt.at ownt.front (by rw [List.length_take]; omega) gbt hr2
        have hx2 := out_ext G1 N1 (ss8.take k.toNat) r2 i2
        generalize outN N1 r2 i2 = N2 at *
        generalize outH G1 N1 (ss8.take k.toNat) r2 i2 = G2 at *
        have own2 := ownt.ext hx2 (show b8 < N1 by have := hx1.1; omega)
        have hc4 := refCheckC W0 (nx := N2) own2.at gbt (by rw [List.length_take]; omega) hr2.chk
        refine OpsC.drawn (nx0 := nx9) (H0 := H9) fit.mixed (by kernel_rfl) (by kernel_rfl) Ext.refl ?_
        refine OpsC.one rfl (by kernel_rfl) ?_
        repeat (first | (refine OpsL.p (by subst_vars; decide) (by (first | (exact aop_move (by (first | (simp only [ASt.ev, tmPut, ↓reduceIte, reduceIte, Nat.reduceEqDiff, plain1, *]; rfl) | fail))) | fail)) ?_) | (refine OpsL.nil ?_; ((repeat (first | refine blockExit_eq ?_ | refine blockExit_ne (by decide) ?_ | refine blockExit_normal ?_ | refine blockExit_ret ?_ | refine blockExit_goto ?_)); first | (change Trip _ _ _ _ _) | dsimp only | skip)) | fail)
        refine OpsC.call1 (by subst_vars; decide) rfl (by (first | (simp only [ASt.ev, tmPut, ↓reduceIte, reduceIte, Nat.reduceEqDiff, plain1, *]; done) | fail)) entersWCheck hc1 hx1 ?_
        refine OpsC.one rfl (by kernel_rfl) ?_
        repeat (first | (refine OpsL.p (by subst_vars; decide) (by (first | (exact aop_move (by (first | (simp only [ASt.ev, tmPut, ↓reduceIte, reduceIte, Nat.reduceEqDiff, plain1, *]; rfl) | fail))) | fail)) ?_) | (refine OpsL.nil ?_; ((repeat (first | refine blockExit_eq ?_ | refine blockExit_ne (by decide) ?_ | refine blockExit_normal ?_ | refine blockExit_ret ?_ | refine blockExit_goto ?_)); first | (change Trip _ _ _ _ _) | dsimp only | skip)) | fail)
        refine OpsC.call1 (by subst_vars; decide) rfl (by (first | (simp only [ASt.ev, tmPut, ↓reduceIte, reduceIte, Nat.reduceEqDiff, plain1, *]; done) | fail)) entersRCheck hc2 hx1 ?_
        refine OpsC.sp (by subst_vars; decide) rfl (fun H' nx' _ => aop_eqlT (by (first | (simp only [ASt.ev, tmPut, ↓reduceIte, reduceIte, Nat.reduceEqDiff, plain1, *]; rfl) | fail)) (by (first | (simp only [ASt.ev, tmPut, ↓reduceIte, reduceIte, Nat.reduceEqDiff, plain1, *]; done) | fail)) rfl) ?_
        refine OpsC.one rfl (by kernel_rfl) ?_
        repeat (first | (refine OpsL.p (by subst_vars; decide) (by (first | (exact aop_move (by (first | (simp only [ASt.ev, tmPut, ↓reduceIte, reduceIte, Nat.reduceEqDiff, plain1, *]; rfl) | fail))) | fail)) ?_) | (refine OpsL.nil ?_; ((repeat (first | refine blockExit_eq ?_ | refine blockExit_ne (by decide) ?_ | refine blockExit_normal ?_ | refine blockExit_ret ?_ | refine blockExit_goto ?_)); first | (change Trip _ _ _ _ _) | dsimp only | skip)) | fail)
        refine OpsC.one rfl (by kernel_rfl) ?_
        repeat (first | (refine OpsL.p (by subst_vars; decide) (by (first | (exact aop_move (by (first | (simp only [ASt.ev, tmPut, ↓reduceIte, reduceIte, Nat.reduceEqDiff, plain1, *]; rfl) | fail))) | fail)) ?_) | (refine OpsL.nil ?_; ((repeat (first | refine blockExit_eq ?_ | refine blockExit_ne (by decide) ?_ | refine blockExit_normal ?_ | refine blockExit_ret ?_ | refine blockExit_goto ?_)); first | (change Trip _ _ _ _ _) | dsimp only | skip)) | (refine OpsL.unguard (by exact rfl) (by (first | (simp only [ASt.ev, tmPut, ↓reduceIte, reduceIte, Nat.reduceEqDiff, decide_true, decide_false, not_true_eq_false, not_false_eq_true, Bool.not_true, Bool.not_false, *]; done) | fail)) ?_) | fail)
        refine OpsC.one rfl (by kernel_rfl) ?_
        repeat (first | (refine OpsL.p (by subst_vars; decide) (by (first | (exact aop_move (by (first | (simp only [ASt.ev, tmPut, ↓reduceIte, reduceIte, Nat.reduceEqDiff, plain1, *]; rfl) | fail))) | fail)) ?_) | (refine OpsL.nil ?_; ((repeat (first | refine blockExit_eq ?_ | refine blockExit_ne (by decide) ?_ | refine blockExit_normal ?_ | refine blockExit_ret ?_ | refine blockExit_goto ?_)); first | (change Trip _ _ _ _ _) | dsimp only | skip)) | (refine OpsL.unguard (by exact rfl) (by (first | (simp only [ASt.ev, tmPut, ↓reduceIte, reduceIte, Nat.reduceEqDiff, decide_true, decide_false, not_true_eq_false, not_false_eq_true, Bool.not_true, Bool.not_false, *]; done) | fail)) ?_) | fail)
        refine OpsC.unguard (by exact rfl) (by (first | (simp only [ASt.ev, tmPut, ↓reduceIte, reduceIte, Nat.reduceEqDiff, decide_true, decide_false, not_true_eq_false, not_false_eq_true, Bool.not_true, Bool.not_false, *]; done) | fail)) ?_
        refine OpsC.sp (by subst_vars; decide) rfl (fun H' nx' hx => aop_slice (a := none) (b := some (.int .i64 k)) (c := none) (by (first | (simp only [ASt.ev, tmPut, ↓reduceIte, reduceIte, Nat.reduceEqDiff, plain1, *]; done) | fail)) rfl (by simp only [evOpt, ASt.ev, tmPut, ↓reduceIte, reduceIte, Option.some.injEq, Nat.reduceEqDiff, Option.map_some, *]) rfl (hsl H' nx' hx)) ?_
        refine OpsC.unguard (by exact rfl) (by (first | (simp only [ASt.ev, tmPut, ↓reduceIte, reduceIte, Nat.reduceEqDiff, decide_true, decide_false, not_true_eq_false, not_false_eq_true, Bool.not_true, Bool.not_false, *]; done) | fail)) ?_
        refine OpsC.call1 (by subst_vars; decide) rfl (by (first | (simp only [ASt.ev, tmPut, ↓reduceIte, reduceIte, Nat.reduceEqDiff, plain1, *]; done) | fail)) entersWCheck hc3 (hx1.trans hx2) ?_
        refine OpsC.one rfl (by kernel_rfl) ?_
        repeat (first | (refine OpsL.p (by subst_vars; decide) (by (first | (exact aop_move (by (first | (simp only [ASt.ev, tmPut, ↓reduceIte, reduceIte, Nat.reduceEqDiff, plain1, *]; rfl) | fail))) | fail)) ?_) | (refine OpsL.nil ?_; ((repeat (first | refine blockExit_eq ?_ | refine blockExit_ne (by decide) ?_ | refine blockExit_normal ?_ | refine blockExit_ret ?_ | refine blockExit_goto ?_)); first | (change Trip _ _ _ _ _) | dsimp only | skip)) | (refine OpsL.unguard (by exact rfl) (by (first | (simp only [ASt.ev, tmPut, ↓reduceIte, reduceIte, Nat.reduceEqDiff, decide_true, decide_false, not_true_eq_false, not_false_eq_true, Bool.not_true, Bool.not_false, *]; done) | fail)) ?_) | fail)
        refine OpsC.one rfl (by kernel_rfl) ?_
        repeat (first | (refine OpsL.p (by subst_vars; decide) (by (first | (exact aop_move (by (first | (simp only [ASt.ev, tmPut, ↓reduceIte, reduceIte, Nat.reduceEqDiff, plain1, *]; rfl) | fail))) | fail)) ?_) | (refine OpsL.nil ?_; ((repeat (first | refine blockExit_eq ?_ | refine blockExit_ne (by decide) ?_ | refine blockExit_normal ?_ | refine blockExit_ret ?_ | refine blockExit_goto ?_)); first | (change Trip _ _ _ _ _) | dsimp only | skip)) | (refine OpsL.unguard (by exact rfl) (by (first | (simp only [ASt.ev, tmPut, ↓reduceIte, reduceIte, Nat.reduceEqDiff, decide_true, decide_false, not_true_eq_false, not_false_eq_true, Bool.not_true, Bool.not_false, *]; done) | fail)) ?_) | fail)
        refine OpsC.unguard (by exact rfl) (by (first | (simp only [ASt.ev, tmPut, ↓reduceIte, reduceIte, Nat.reduceEqDiff, decide_true, decide_false, not_true_eq_false, not_false_eq_true, Bool.not_true, Bool.not_false, *]; done) | fail)) ?_
        refine OpsC.sp (by subst_vars; decide) rfl (fun H' nx' hx => aop_slice (a := none) (b := some (.int .i64 k)) (c := none) (by (first | (simp only [ASt.ev, tmPut, ↓reduceIte, reduceIte, Nat.reduceEqDiff, plain1, *]; done) | fail)) rfl (by simp only [evOpt, ASt.ev, tmPut, ↓reduceIte, reduceIte, Option.some.injEq, Nat.reduceEqDiff, Option.map_some, *]) rfl (hsl H' nx' hx)) ?_
        refine OpsC.unguard (by exact rfl) (by (first | (simp only [ASt.ev, tmPut, ↓reduceIte, reduceIte, Nat.reduceEqDiff, decide_true, decide_false, not_true_eq_false, not_false_eq_true, Bool.not_true, Bool.not_false, *]; done) | fail)) ?_
        refine OpsC.call1 (by subst_vars; decide) rfl (by (first | (simp only [ASt.ev, tmPut, ↓reduceIte, reduceIte, Nat.reduceEqDiff, plain1, *]; done) | fail)) entersRCheck hc4 (hx1.trans hx2) ?_
        refine OpsC.unguard (by exact rfl) (by (first | (simp only [ASt.ev, tmPut, ↓reduceIte, reduceIte, Nat.reduceEqDiff, decide_true, decide_false, not_true_eq_false, not_false_eq_true, Bool.not_true, Bool.not_false, *]; done) | fail)) ?_
        refine OpsC.sp (by subst_vars; decide) rfl (fun H' nx' _ => aop_eqlT (by (first | (simp only [ASt.ev, tmPut, ↓reduceIte, reduceIte, Nat.reduceEqDiff, plain1, *]; rfl) | fail)) (by (first | (simp only [ASt.ev, tmPut, ↓reduceIte, reduceIte, Nat.reduceEqDiff, plain1, *]; done) | fail)) rfl) ?_
        refine OpsC.one rfl (by kernel_rfl) ?_
        repeat (first | (refine OpsL.p (by subst_vars; decide) (by (first | (exact aop_pickT (by (first | (simp only [ASt.ev, tmPut, ↓reduceIte, reduceIte, Nat.reduceEqDiff, decide_true, decide_false, not_true_eq_false, not_false_eq_true, Bool.not_true, Bool.not_false, *]; done) | fail)) (by (first | (simp only [ASt.ev, tmPut, ↓reduceIte, reduceIte, Nat.reduceEqDiff, plain1, *]; rfl) | fail))) | fail)) ?_) | (refine OpsL.nil ?_; ((repeat (first | refine blockExit_eq ?_ | refine blockExit_ne (by decide) ?_ | refine blockExit_normal ?_ | refine blockExit_ret ?_ | refine blockExit_goto ?_)); first | (change Trip _ _ _ _ _) | dsimp only | skip)) | fail)
        refine OpsC.one rfl (by kernel_rfl) ?_
        repeat (first | (refine OpsL.p (by subst_vars; decide) (by (first | (exact aop_assign (by (first | (simp only [ASt.ev, tmPut, ↓reduceIte, reduceIte, Nat.reduceEqDiff, plain1, *]; rfl) | fail))) | fail)) ?_) | (refine OpsL.nil ?_; ((repeat (first | refine blockExit_eq ?_ | refine blockExit_ne (by decide) ?_ | refine blockExit_normal ?_ | refine blockExit_ret ?_ | refine blockExit_goto ?_)); first | (change Trip _ _ _ _ _) | dsimp only | skip)) | fail)
        refine OpsC.nil ?_
        ((repeat (first | refine blockExit_eq ?_ | refine blockExit_ne (by decide) ?_ | refine blockExit_normal ?_ | refine blockExit_ret ?_ | refine blockExit_goto ?_)); first | (change Trip _ _ _ _ _) | dsimp only | skip)
        repeat (first | (refine Trip.ret ?_; ((repeat (first | refine blockExit_eq ?_ | refine blockExit_ne (by decide) ?_ | refine blockExit_normal ?_ | refine blockExit_ret ?_ | refine blockExit_goto ?_)); first | (change Trip _ _ _ _ _) | dsimp only | skip)) | fail)
        exact ⟨.inr rfl, _, res_tmp, by simp [tmPut]⟩

theorem core (W0 : World) (nx : Nat) (H : Heap) (a0 : Int) (w0 : (Lit.int .i64 a0).wf = true) (x1 : List Int) (w1 : ∀ x ∈ x1, (Lit.int .i64 x).wf = true) (a2 : Int) (w2 : (Lit.int .i64 a2).wf = true) (s3 : ByteArray) (w3 : s3.size ≤ maxLen) (a4 : Int) (w4 : (Lit.int .i64 a4).wf = true) (a5 : Int) (w5 : (Lit.int .i64 a5).wf = true) (us : List Value)
    (hat : All2 (Arg.at H) [.plain (.int .i64 a0), .ints .i64 x1, .plain (.int .i64 a2), .plain (.string s3), .plain (.int .i64 a4), .plain (.int .i64 a5)] us) (_ : ∀ id o, H id = some o → id < nx) : ACalls Try.prog W0 5 us nx H fun v _ _ => v = .bool true := by
  obtain ⟨u0, us, rfl, h0, hat⟩ := hat.cons
  obtain ⟨u1, us, rfl, h1, hat⟩ := hat.cons
  obtain ⟨u2, us, rfl, h2, hat⟩ := hat.cons
  obtain ⟨u3, us, rfl, h3, hat⟩ := hat.cons
  obtain ⟨u4, us, rfl, h4, hat⟩ := hat.cons
  obtain ⟨u5, us, rfl, h5, hat⟩ := hat.cons
  obtain rfl := hat.nil
  obtain rfl : u0 = _ := h0
  obtain rfl : u2 = _ := h2
  obtain rfl : u3 = _ := h3
  obtain rfl : u4 = _ := h4
  obtain rfl : u5 = _ := h5
  exact law W0 h1.1

theorem own : ownKnob Try.prog.godebug = none := by kernel_rfl
theorem laidOut : laidOutB Try.prog = true := by kernel_rfl
theorem cells_ints : Try.prog.cellsOf 3 = 1 := by kernel_rfl

set_option maxRecDepth 100000 in
theorem lifted (os : Os) (started : os.Started) (H : Type) (enc : TypeId × Value → H) :
    ReturnsInHanded {} Try.checked os 5 .any (Rows.wordChecksSpec.pre6 enc Try.prog Try.f5 Rows.wordChecksRow.domain false) (Rows.wordChecksSpec.post enc Try.prog Try.f5 false true false false) := by
  refine returnsInHanded_of_change (C := Try.checked) own started (by kernel_rfl) Try.func5
    (ChangeSpec.witness6 (enc := enc) (C := Try.checked) false ⟨#[], #[.int .i64 0, .slice none 0 0, .int .i64 0, .string .empty, .int .i64 0, .int .i64 0], []⟩ 8 (by kernel_rfl) (by kernel_rfl) (by kernel_rfl) (by kernel_rfl)) ?_
  intro W base args ds gs before hval0 hW _ _
  have hval : ∀ (j : Nat) t v, Try.f5.params[j]? = some t → args[j]? = some v → Value.okWide Try.prog W .any base t v := hval0
  have hW' := hW
  obtain ⟨p, q, hA0, hV, rfl, _, _⟩ := hW
  have hA : DataW.TrodAll enc Try.prog W 0 (fun _ => true) true Try.f5.params.toList args.toList ds p := hA0
  rw [Try.params5] at hA hval
  obtain ⟨v0, vs0, d0, ds0, p0, q0, hargs, rfl, rfl, h0, r0⟩ := trodAll_cons hA
  obtain ⟨v1, vs1, d1, ds1, p1, q1, rfl, rfl, rfl, h1, r1⟩ := trodAll_cons r0
  obtain ⟨v2, vs2, d2, ds2, p2, q2, rfl, rfl, rfl, h2, r2⟩ := trodAll_cons r1
  obtain ⟨v3, vs3, d3, ds3, p3, q3, rfl, rfl, rfl, h3, r3⟩ := trodAll_cons r2
  obtain ⟨v4, vs4, d4, ds4, p4, q4, rfl, rfl, rfl, h4, r4⟩ := trodAll_cons r3
  obtain ⟨v5, vs5, d5, ds5, p5, q5, rfl, rfl, rfl, h5, r5⟩ := trodAll_cons r4
  obtain ⟨rfl, rfl, rfl⟩ := trodAll_nil r5
  obtain rfl : args = #[v0, v1, v2, v3, v4, v5] := by cases args; simp_all
  obtain ⟨rfl, rfl⟩ := trodVars_none hV
  obtain ⟨a0, rfl, rfl, rfl, w0⟩ := open_int Try.underlying3 (hval 0 3 v0 rfl rfl) h0
  obtain ⟨x1, c1, w1⟩ := came_ints Try.underlying22 Try.underlying3 cells_ints (hval 1 22 v1 rfl rfl) h1
  obtain ⟨a2, rfl, rfl, rfl, w2⟩ := open_int Try.underlying3 (hval 2 3 v2 rfl rfl) h2
  obtain ⟨s3, rfl, rfl, rfl, w3⟩ := Go.ChangeMaps.open_string Try.underlying9 (hval 3 9 v3 rfl rfl) h3
  obtain ⟨a4, rfl, rfl, rfl, w4⟩ := open_int Try.underlying3 (hval 4 3 v4 rfl rfl) h4
  obtain ⟨a5, rfl, rfl, rfl, w5⟩ := open_int Try.underlying3 (hval 5 3 v5 rfl rfl) h5
  clear hA0 hval0
  refine (law_calls (ars := [.plain (.int .i64 a0), .ints .i64 x1, .plain (.int .i64 a2), .plain (.string s3), .plain (.int .i64 a4), .plain (.int .i64 a5)]) (vs := [_, _, _, _, _, _]) ⟨⟨rfl, rfl⟩, c1, ⟨rfl, rfl⟩, ⟨rfl, rfl⟩, ⟨rfl, rfl⟩, ⟨rfl, rfl⟩, trivial⟩ (fun nx H us hat hok => core W nx H a0 w0 x1 w1 a2 w2 s3 w3 a4 w4 a5 w5 us hat hok)).mono fun e W' ⟨he, hg⟩ => ?_
  subst he
  exact ⟨_, rfl, law_post laidOut (by kernel_rfl) rfl Try.underlying4 rfl hW' rfl hg⟩

theorem over : Rows.wordChecksRow.holds Try.pinned (OpenSpec.ofChange Rows.wordChecksSpec) :=
  OpenClaim.holds_of_wide 5 Try.f5 rfl rfl rfl rfl rfl rfl rfl ⟨rfl, rfl, rfl, rfl, rfl⟩ rfl rfl rfl rfl rfl (by kernel_rfl) Try.func5 (by kernel_rfl)
    (of_decide_eq_true (by kernel_rfl)) (by unfold Func.isWrapper; first | (rw [if_pos (by decide +kernel)]; kernel_rfl) | (rw [if_neg (by decide +kernel)]; exact ⟨rfl, rfl⟩))
    (fun os started H enc _ => lifted os started H enc)

theorem proved : Rows.WordChecksSaid := over
#print axioms proved


end Go.Proofs.Ytbopknfalilliaa.wordChecks

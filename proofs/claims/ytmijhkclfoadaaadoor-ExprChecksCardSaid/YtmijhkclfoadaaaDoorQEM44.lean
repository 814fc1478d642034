import Derived.Test.YtmijhkclfoadaaaDoorQEM43
namespace Go.Am
set_option linter.unusedSimpArgs false
set_option linter.unusedVariables false
open Go.RowKit
theorem nthV_eq (c : List Value) : ∀ n, nthV c n = c[n]? := by
  induction c with
  | nil => intro n; rfl
  | cons x l ih =>
    intro n
    cases n with
    | zero => rfl
    | succ n => exact ih n
theorem cutV_eq (c : List Value) : ∀ off n, cutV c off n = if off + n ≤ c.length then some ((c.drop off).take n) else none := by
  induction c with
  | nil =>
    intro off n
    show Nat.rec (motive := fun _ => Option (List Value)) (some []) (fun _ _ => none) (Nat.add off n) = _
    cases h : Nat.add off n with
    | zero =>
      have : off + n = 0 := h
      obtain rfl : off = 0 := by omega
      obtain rfl : n = 0 := by omega
      rfl
    | succ k =>
      have : off + n = k + 1 := h
      rw [if_neg (by simp; omega)]
  | cons x l ih =>
    intro off n
    cases off with
    | zero =>
      cases n with
      | zero => rw [if_pos (by simp)]; rfl
      | succ m =>
        show consO x (cutV l 0 m) = _
        rw [ih]
        by_cases h : 0 + m ≤ l.length
        · rw [if_pos h, if_pos (by simp; omega)]
          simp [consO]
        · rw [if_neg h, if_neg (by simp; omega)]
          rfl
    | succ k =>
      show cutV l k n = _
      rw [ih]
      by_cases h : k + n ≤ l.length
      · rw [if_pos h, if_pos (by simp; omega)]; simp
      · rw [if_neg h, if_neg (by simp; omega)]
theorem putL_eq (c : List Value) : ∀ off vs, putL c off vs = if off + vs.length ≤ c.length then some (c.take off ++ vs ++ c.drop (off + vs.length)) else none := by
  induction c with
  | nil =>
    intro off vs
    cases off with
    | zero =>
      cases vs with
      | nil => rw [if_pos (by simp)]; rfl
      | cons v vs => rw [if_neg (by simp)]; rfl
    | succ k => rw [if_neg (by rw [List.length_nil]; omega)]; rfl
  | cons x l ih =>
    intro off vs
    cases off with
    | zero =>
      cases vs with
      | nil => rw [if_pos (by simp)]; rfl
      | cons v vs =>
        show consO v (putL l 0 vs) = _
        rw [ih]
        by_cases h : 0 + vs.length ≤ l.length
        · rw [if_pos h, if_pos (by simp; omega)]
          simp [consO, Nat.add_comm]
        · rw [if_neg h, if_neg (by simp; omega)]
          rfl
    | succ k =>
      show consO x (putL l k vs) = _
      rw [ih]
      by_cases h : k + vs.length ≤ l.length
      · rw [if_pos h, if_pos (by simp; omega)]
        have : k + 1 + vs.length = (k + vs.length) + 1 := by omega
        simp [consO, this]
      · rw [if_neg h, if_neg (by simp; omega)]
        rfl
theorem lenV_eq (c : List Value) : lenV c = c.length := by
  induction c with
  | nil => rfl
  | cons x l ih => show Nat.succ (lenV l) = _; rw [ih]; rfl
theorem beq_dec (a b : Nat) : Nat.beq a b = decide (a = b) := by
  rw [Bool.eq_iff_iff, decide_eq_true_eq]
  exact ⟨Nat.eq_of_beq_eq_true, fun h => by rw [h]; exact Nat.beq_refl b⟩
theorem sameSpot_eq (a b : Option Nat) : sameSpot a b = decide (a = b) := by
  cases a <;> cases b
  · rfl
  · rfl
  · rfl
  · rename_i x y
    show Nat.beq x y = _
    rw [beq_dec]
    by_cases h : x = y <;> simp [h]
theorem one'_eq (v : Value) : one' v = v.oneCell' := by cases v <;> rfl
theorem ones'_eq (l : List Value) : ones' l = l.all (·.oneCell') := by
  induction l with
  | nil => rfl
  | cons v l ih =>
    show Bool.rec (motive := fun _ => Bool) false (ones' l) (one' v) = _
    rw [ih, one'_eq, List.all_cons]
    cases v.oneCell' <;> rfl
theorem cellsAt_eq (H : Heap) (o : AObj) (b off n : Nat) (spot : Option Nat) (ho : H b = some o) : cellsAtF o off spot n = getc H ⟨b, off, spot⟩ n := by
  unfold getc
  simp only [ho]
  cases o with
  | cells c e t ro q =>
    show Bool.rec (motive := fun _ => Option (List Value)) none (cutV c off n) (sameSpot t spot) = _
    rw [cutV_eq, sameSpot_eq]
    by_cases h : t = spot
    · rw [decide_eq_true h]
      by_cases h2 : off + n ≤ c.length
      · simp only [h, h2, true_and, if_true]
      · simp only [h, h2, true_and, if_false]
    · rw [decide_eq_false h]
      show none = if t = spot ∧ off + n ≤ c.length then some ((c.drop off).take n) else none
      rw [if_neg (fun hh => h hh.1)]
  | map _ _ _ => rfl
  | siter _ _ => rfl
  | miter _ _ _ _ => rfl
  | loop _ _ _ _ _ _ _ => rfl
theorem cellAt_eq (H : Heap) (o : AObj) (b off : Nat) (spot : Option Nat) (ho : H b = some o) : cellAtF o off spot = match getc H ⟨b, off, spot⟩ 1 with | some (v :: _) => some v | _ => none := by
  unfold getc
  simp only [ho]
  cases o with
  | cells c e t ro q =>
    show Bool.rec (motive := fun _ => Option Value) none (nthV c off) (sameSpot t spot) = _
    rw [nthV_eq, sameSpot_eq]
    by_cases h : t = spot
    · rw [decide_eq_true h]
      by_cases h2 : off + 1 ≤ c.length
      · simp only [h, h2, true_and, if_true]
        have : (c.drop off).take 1 = [c[off]] := by
          rw [List.drop_eq_getElem_cons (by omega)]; rfl
        rw [this]
        simp only
        exact List.getElem?_eq_getElem (by omega)
      · simp only [h, h2, true_and, if_false]
        exact List.getElem?_eq_none (by omega)
    · rw [decide_eq_false h]
      simp only [h, false_and, if_false]
  | map _ _ _ => rfl
  | siter _ _ => rfl
  | miter _ _ _ _ => rfl
  | loop _ _ _ _ _ _ _ => rfl
theorem readF_eq (P : Program) (t : TypeId) (ht : Tree AObj) (a : Addr) : readF P t ht a = readAt P ht.get t a := by
  obtain ⟨b, off, spot⟩ := a
  unfold readF readAt rdK
  cases P.underlying t with
  | none => rfl
  | some d =>
    simp only
    have hb : (slotOf b).get ht = ht.get b := rfl
    by_cases hd : isAggD d = true
    · rw [if_pos hd, if_pos hd]
      cases hs : szOf P t with
      | none => rfl
      | some n =>
        simp only [Option.map_some, hb]
        cases ho : ht.get b with
        | none => simp [getc, ho]
        | some o =>
          simp only
          rw [cellsAt_eq ht.get o b off n spot ho]
          cases getc ht.get ⟨b, off, spot⟩ n <;> rfl
    · rw [if_neg hd, if_neg hd]
      simp only [hb]
      cases ho : ht.get b with
      | none => simp [getc, ho]
      | some o => exact cellAt_eq ht.get o b off spot ho
theorem loadF_eq (P : Program) (t : TypeId) (ht : Tree AObj) (v : Value) : loadF P t ht v = aLoad P ht.get t v := by
  cases v with
  | pointer a => cases a with
    | none => rfl
    | some a => exact readF_eq P t ht a
  | _ => rfl
theorem cellsF_eq (v : Value) : cellsF v = v.cells.toList := by cases v <;> rfl
theorem setF_eq (H : Heap) (o : AObj) (b off : Nat) (spot : Option Nat) (vs : List Value) (ho : H b = some o) : setF o off spot vs = setc H ⟨b, off, spot⟩ vs := by
  unfold setc
  simp only [ho]
  cases o with
  | cells c e t ro q =>
    show Bool.rec (motive := fun _ => Option AObj) none (Bool.rec (motive := fun _ => Option AObj) (Bool.rec (motive := fun _ => Option AObj) none (Option.rec (motive := fun _ => Option AObj) none (fun c' => some (.cells c' e t false q)) (putL c off vs)) (ones' vs)) none ro) (sameSpot t spot) = _
    rw [putL_eq, sameSpot_eq, ones'_eq]
    by_cases h : t = spot
    · rw [decide_eq_true h]
      cases ro with
      | true => simp
      | false =>
        cases hv : vs.all (·.oneCell') with
        | false => simp [hv]
        | true =>
          by_cases h2 : off + vs.length ≤ c.length
          · simp [h, h2, hv]
          · simp [h2]
    · rw [decide_eq_false h]
      simp only [h, false_and, if_false]
  | map _ _ _ => rfl
  | siter _ _ => rfl
  | miter _ _ _ _ => rfl
  | loop _ _ _ _ _ _ _ => rfl
theorem storeF_eq (P : Program) (t : TypeId) (ht : Tree AObj) (v u : Value) : storeF P t ht v u = aStore P ht.get t v u := by
  cases v with
  | pointer a => cases a with
    | none => rfl
    | some a =>
      obtain ⟨b, off, spot⟩ := a
      show writeF P t ht ⟨b, off, spot⟩ (cellsF u) = writeAt P ht.get t ⟨b, off, spot⟩ u
      unfold writeF writeAt
      rw [cellsF_eq]
      cases hs : szOf P t with
      | none => simp
      | some n =>
        simp only [lenV_eq, Array.length_toList, beq_dec, Option.some.injEq]
        by_cases h : n = u.cells.size
        · rw [decide_eq_true h, if_pos h]
          have hb : (slotOf b).get ht = ht.get b := rfl
          simp only [hb]
          cases ho : ht.get b with
          | none => simp [setc, ho]
          | some o =>
            simp only
            rw [setF_eq ht.get o b off spot _ ho]
            cases setc ht.get ⟨b, off, spot⟩ u.cells.toList <;> rfl
        · rw [decide_eq_false h, if_neg h]
  | _ => rfl
theorem stepTo_eq (a : Addr) (i size len : Nat) : stepTo a i size len = if i < len then some (.pointer (some ⟨a.block, a.off + i * size, a.spot⟩)) else none := by
  unfold stepTo
  rw [blt_lt]
  by_cases h : i < len
  · rw [decide_eq_true h, if_pos h]; rfl
  · rw [decide_eq_false h, if_neg h]
theorem idxF_eq (P : Program) (t : TypeId) (v j : Value) : idxF P t v j = aIndexAddr P t v j := by
  unfold idxF aIndexAddr idxK
  cases P.underlying t with
  | none => rfl
  | some d =>
    cases d with
    | array len elem =>
      simp only
      cases hs : szOf P elem with
      | none => simp only [Option.map_none]; split <;> first | rfl | (rename_i hq _ _; cases hq; done) | skip
                all_goals simp_all
      | some n =>
        simp only [Option.map_some]
        cases j with
        | int k i =>
          cases i with
          | ofNat i =>
            cases v with
            | pointer a => cases a with
              | none => rfl
              | some a =>
                show stepTo a i n len = _
                rw [stepTo_eq]
                simp only [hs]
                by_cases h : i < len
                · have : (0 : Int) ≤ Int.ofNat i ∧ Int.ofNat i < (len : Int) := ⟨by simp, by simp only [Int.ofNat_eq_natCast]; omega⟩
                  rw [if_pos h, if_pos this]; rfl
                · have : ¬ ((0 : Int) ≤ Int.ofNat i ∧ Int.ofNat i < (len : Int)) := fun q => h (by have := q.2; simp only [Int.ofNat_eq_natCast] at this; omega)
                  rw [if_neg h, if_neg this]
            | _ => rfl
          | negSucc i =>
            cases v with
            | pointer a => cases a with
              | none => rfl
              | some a =>
                simp only [hs]
                have : ¬ ((0 : Int) ≤ Int.negSucc i ∧ Int.negSucc i < (len : Int)) := fun q => by have := q.1; rw [Int.negSucc_eq] at this; omega
                rw [if_neg this]
                rfl
            | _ => rfl
        | _ => cases v <;> first | rfl | (rename_i a; cases a <;> rfl)
    | slice elem =>
      simp only
      cases hs : szOf P elem with
      | none => simp only [Option.map_none]; split <;> first | rfl | (rename_i hq _ _; cases hq; done) | skip
                all_goals simp_all
      | some n =>
        simp only [Option.map_some]
        cases j with
        | int k i =>
          cases i with
          | ofNat i =>
            cases v with
            | slice a len cap => cases a with
              | none => rfl
              | some a =>
                show stepTo a i n len = _
                rw [stepTo_eq]
                simp only [hs]
                by_cases h : i < len
                · have : (0 : Int) ≤ Int.ofNat i ∧ Int.ofNat i < (len : Int) := ⟨by simp, by simp only [Int.ofNat_eq_natCast]; omega⟩
                  rw [if_pos h, if_pos this]; rfl
                · have : ¬ ((0 : Int) ≤ Int.ofNat i ∧ Int.ofNat i < (len : Int)) := fun q => h (by have := q.2; simp only [Int.ofNat_eq_natCast] at this; omega)
                  rw [if_neg h, if_neg this]
            | _ => rfl
          | negSucc i =>
            cases v with
            | slice a len cap => cases a with
              | none => rfl
              | some a =>
                simp only [hs]
                have : ¬ ((0 : Int) ≤ Int.negSucc i ∧ Int.negSucc i < (len : Int)) := fun q => by have := q.1; rw [Int.negSucc_eq] at this; omega
                rw [if_neg this]
                rfl
            | _ => rfl
        | _ => cases v <;> first | rfl | (rename_i a _ _; cases a <;> rfl)
    | _ => rfl
theorem fadF_eq (P : Program) (t : TypeId) (v : Value) (f : Nat) : fadF P t v f = aFieldAddr P t v f := by
  unfold fadF aFieldAddr fadK fldK
  cases P.underlying t with
  | none => rfl
  | some d =>
    cases d with
    | struct fields =>
      simp only
      cases hf : fields[f]? with
      | none => cases v <;> first | rfl | (rename_i a; cases a <;> simp [asPtr, hf])
      | some fd =>
        simp only [Option.map_some]
        cases hs : szOf P fd.type with
        | none => cases v <;> first | rfl | (rename_i a; cases a <;> simp [asPtr, hf, hs])
        | some n =>
          simp only
          by_cases h0 : n = 0
          · cases v <;> first | (simp [h0]; done) | (rename_i a; cases a <;> simp [asPtr, hf, hs, h0])
          · cases v <;> first | (simp [h0, asPtr]; done) | (rename_i a; cases a <;> simp [asPtr, hf, hs, h0])
    | _ => rfl
theorem partF_eq (P : Program) (t : TypeId) (cs : List Value) (off : Nat) : partF P t cs off = getPart P t cs off := by
  unfold partF getPart rdK
  cases P.underlying t with
  | none => rfl
  | some d =>
    simp only
    by_cases hd : isAggD d = true
    · rw [if_pos hd, if_pos hd]
      cases hs : szOf P t with
      | none => rfl
      | some n =>
        simp only [Option.map_some]
        rw [cutV_eq]
        by_cases h : off + n ≤ cs.length
        · rw [if_pos h, if_pos h]
        · rw [if_neg h, if_neg h]
    · rw [if_neg hd, if_neg hd]
      exact nthV_eq _ _
theorem fldF_eq (P : Program) (t : TypeId) (v : Value) (f : Nat) : fldF P t v f = aField P t v f := by
  unfold fldF aField fldK
  cases P.underlying t with
  | none => rfl
  | some d =>
    cases d with
    | struct fields =>
      simp only
      cases hf : fields[f]? with
      | none => cases v <;> simp [hf]
      | some fd =>
        simp only [Option.map_some]
        cases v <;> first | rfl | (simp only [asAgg, hf]; exact partF_eq _ _ _ _)
    | _ => rfl
theorem extF_eq (v : Value) (i : Nat) : extF v i = aExtract v i := by
  cases v <;> first | rfl | exact nthV_eq _ _
theorem kNo_eq (k k' : IntKind) : Nat.beq (kNo k) (kNo k') = decide (k = k') := by cases k <;> cases k' <;> rfl
theorem wrap_in (k : IntKind) (n : Int) (h : -(minK k : Int) ≤ n ∧ n ≤ (maxK k : Int)) : k.wrap n = n := by
  cases k
  · exact IntWalk.i8_in n h
  · exact IntWalk.i16_in n h
  · exact IntWalk.i32_in n h
  · exact IntWalk.i64_in n h
  · exact IntWalk.u8_in n h
  · exact IntWalk.u16_in n h
  · exact IntWalk.u32_in n h
  · exact IntWalk.u64_in n h
theorem wrapF_eq (k : IntKind) (n : Int) : wrapF k n = k.wrap n := by
  cases n with
  | ofNat m =>
    show Bool.rec (motive := fun _ => Int) (k.wrap (.ofNat m)) (.ofNat m) (Nat.ble m (maxK k)) = _
    cases h : Nat.ble m (maxK k) with
    | false => rfl
    | true =>
      have := Nat.le_of_ble_eq_true h
      exact (wrap_in k _ ⟨by simp only [Int.ofNat_eq_natCast]; omega, by simp only [Int.ofNat_eq_natCast]; omega⟩).symm
  | negSucc m =>
    show Bool.rec (motive := fun _ => Int) (k.wrap (.negSucc m)) (.negSucc m) (Nat.blt m (minK k)) = _
    cases h : Nat.blt m (minK k) with
    | false => rfl
    | true =>
      rw [blt_lt] at h
      have := of_decide_eq_true h
      show Int.negSucc m = k.wrap (Int.negSucc m)
      exact (wrap_in k _ ⟨by rw [Int.negSucc_eq]; omega, by rw [Int.negSucc_eq]; omega⟩).symm
theorem subN_eq (m n : Nat) : subN m n = (m : Int) - (n : Int) := by
  unfold subN
  rw [blt_lt]
  by_cases h : m < n
  · rw [decide_eq_true h]
    show Int.negSucc (n - m - 1) = _
    rw [Int.negSucc_eq]; omega
  · rw [decide_eq_false h]
    show Int.ofNat (m - n) = _
    simp only [Int.ofNat_eq_natCast]; omega
theorem addI_eq (a b : Int) : addI a b = a + b := by
  cases a <;> cases b
  · rename_i m n; show Int.ofNat (m + n) = _; simp
  · rename_i m n; show subN m (n + 1) = _; rw [subN_eq, Int.negSucc_eq]; simp only [Int.ofNat_eq_natCast]; omega
  · rename_i m n; show subN n (m + 1) = _; rw [subN_eq, Int.negSucc_eq]; simp only [Int.ofNat_eq_natCast]; omega
  · rename_i m n; show Int.negSucc (m + n + 1) = _; simp only [Int.negSucc_eq]; omega
theorem negI_eq (a : Int) : negI a = -a := by
  cases a with
  | ofNat m => cases m with
    | zero => rfl
    | succ m => show Int.negSucc m = _; rw [Int.negSucc_eq]; simp
  | negSucc m => show Int.ofNat (m + 1) = _; rw [Int.negSucc_eq]; simp
theorem eqI_eq (a b : Int) : eqI a b = (a == b) := by
  rw [Bool.eq_iff_iff, beq_iff_eq]
  cases a <;> cases b
  · rename_i m n; show Nat.beq m n = true ↔ _; rw [beq_dec, decide_eq_true_eq]; simp only [Int.ofNat_eq_natCast]; omega
  · simp [eqI]
  · simp [eqI]
  · rename_i m n; show Nat.beq m n = true ↔ _; rw [beq_dec, decide_eq_true_eq]; simp
theorem ltI_eq (a b : Int) : ltI a b = decide (a < b) := by
  rw [Bool.eq_iff_iff, decide_eq_true_eq]
  cases a <;> cases b
  · rename_i m n; show Nat.blt m n = true ↔ _; rw [blt_lt, decide_eq_true_eq]; simp
  · rename_i m n; show false = true ↔ _; simp only [Bool.false_eq_true, Int.negSucc_eq, Int.ofNat_eq_natCast, false_iff]; omega
  · rename_i m n; show true = true ↔ _; simp only [Int.negSucc_eq, Int.ofNat_eq_natCast, true_iff]; omega
  · rename_i m n; show Nat.blt n m = true ↔ _; rw [blt_lt, decide_eq_true_eq]; simp only [Int.negSucc_eq]; omega
theorem notB_eq (b : Bool) : notB b = !b := by cases b <;> rfl
theorem binF_eq (P : Program) (ht : Tree AObj) (op : BinOp) (t : TypeId) (x y : Operand) (a b : Value) : binF P ht op t x y a b = aBin P ht.get op t x y a b := by
  cases a with
  | int k n =>
    cases b with
    | int k' m =>
      show binI op k n k' m = if op = .shl ∨ op = .shr then aShift op k n m else if k = k' then intArith op k n m else none
      have two : ∀ v, same2 k k' v = if k = k' then some v else none := fun v => by
        unfold same2
        rw [kNo_eq]
        by_cases h : k = k'
        · rw [decide_eq_true h, if_pos h]
        · rw [decide_eq_false h, if_neg h]
      have three : ∀ v, same3 k k' v = if k = k' then v else none := fun v => by
        unfold same3
        rw [kNo_eq]
        by_cases h : k = k'
        · rw [decide_eq_true h, if_pos h]
        · rw [decide_eq_false h, if_neg h]
      cases op <;> simp only [reduceCtorEq, or_self, or_true, true_or, if_true, if_false]
      · show same2 _ _ _ = _; rw [two, wrapF_eq, addI_eq]; rfl
      · show same2 _ _ _ = _; rw [two, wrapF_eq, addI_eq, negI_eq]; rfl
      · exact three _
      · exact three _
      · exact three _
      · exact three _
      · exact three _
      · exact three _
      · rfl
      · rfl
      · exact three _
      · show same2 _ _ _ = _; rw [two, eqI_eq]; rfl
      · show same2 _ _ _ = _; rw [two, eqI_eq, notB_eq]; rfl
      · show same2 _ _ _ = _; rw [two, ltI_eq]; rfl
      · show same2 _ _ _ = _
        rw [two, ltI_eq, notB_eq]
        have : (!decide (m < n)) = decide (n ≤ m) := by rw [← decide_not]; congr 1; simp
        rw [this]; rfl
      · show same2 _ _ _ = _; rw [two, ltI_eq]; rfl
      · show same2 _ _ _ = _
        rw [two, ltI_eq, notB_eq]
        have : (!decide (n < m)) = decide (n ≥ m) := by rw [← decide_not]; congr 1; simp
        rw [this]; rfl
    | _ => rfl
  | _ => rfl
theorem cvF_eq (P : Program) (nx : Nat) (ht : Tree AObj) (src dst : TypeId) (v : Value) :
    cvF P nx ht src dst v = match aConvert P nx ht.get src dst v with | some r => some r | none => match aConvPtr P ht.get src dst v with | some r => some (r, .none) | none => (aIntStr P src dst v).map (·, .none) := by
  unfold cvF
  cases hk : cvK P src dst with
  | none => rfl
  | some k =>
    unfold cvK at hk
    split at hk
    · rename_i d k' hs hd
      cases hk
      cases v with
      | int j n =>
        show some (Value.int k (wrapF k n), Eff.none) = _
        rw [wrapF_eq]
        simp only [aConvert, hs, hd]
      | _ =>
        simp only [aConvert, aConvPtr, aIntStr, hs, hd]
        first
          | rfl
          | (cases d <;> rfl)
          | (rename_i a; cases a <;> cases d <;> rfl)
          | (rename_i a _ _; cases a <;> cases d <;> rfl)
    · cases hk
theorem lenF_eq (P : Program) (ht : Tree AObj) (nx : Nat) (ts : Array TypeId) (vs : List Value) : (lenF P ht ts vs).map (fun v => (v, Eff.none)) = aBuiltin P ht.get nx .len ts vs := by
  cases vs with
  | nil => rfl
  | cons v r =>
    cases r with
    | cons u r => rfl
    | nil =>
      show Option.map (fun v => (v, Eff.none)) (Bool.rec (motive := fun _ => Option Value) (aLen P ht.get ts v) (Option.rec (motive := fun _ => Option Value) (aLen P ht.get ts v) (fun y => Prod.rec (motive := fun _ => Option Value) (fun _ y => some (.int .i64 (.ofNat y.1))) y) (asSlc v)) (lenK P ts)) = (aLen P ht.get ts v).map (fun v => (v, Eff.none))
      congr 1
      cases hl : lenK P ts with
      | false => rfl
      | true =>
        unfold lenK at hl
        split at hl
        · rename_i t ht0
          split at hl
          · rename_i e he
            cases v with
            | slice a l c =>
              cases a with
              | none => rfl
              | some a => simp only [asSlc, aLen, ht0, he]; rfl
            | _ => rfl
          · cases hl
        · cases hl
theorem evAllF_eq (s : CSt) (l : List Operand) : evAllF s.tt l = evAll s.st.ev l := by
  induction l with
  | nil => rfl
  | cons x l ih =>
    show Option.rec (motive := fun _ => (Tree Value → Option (List Value)) → Tree Value → Option (List Value)) (fun _ _ => none) (fun v k tt => consO v (k tt)) (evF s.tt x) (evAllF · l) s.tt = _
    rw [evF_eq]
    simp only [evAll]
    cases s.st.ev x with
    | none => rfl
    | some v =>
      show consO v (evAllF s.tt l) = _
      rw [ih]
      cases evAll s.st.ev l <;> rfl
theorem resVs_eq (P : Program) (s : CSt) (l : List ResultVar) : resVs P s.tt s.ht l = aResultL P s.st l := by
  induction l with
  | nil => rfl
  | cons r l ih =>
    show Option.rec (motive := fun _ => Option (List Value)) none (fun v => consO v (resVs P s.tt s.ht l)) (resV P s.tt s.ht r) = _
    rw [ih]
    have hr : resV P s.tt s.ht r = aResult P s.st r := by
      cases r with
      | tmp t => show some (tmF s.tt t) = some (s.tm t); rw [tmF_eq]
      | cell a t =>
        show loadF P t s.ht (tmF s.tt a) = _
        rw [loadF_eq, tmF_eq]
        show aLoad P s.ht.get t (s.tm a) = match s.tm a with | .pointer (some a) => readAt P s.ht.get t a | _ => none
        unfold aLoad
        cases s.tm a <;> rfl
    rw [hr]
    simp only [aResultL]
    cases aResult P s.st r with
    | none => rfl
    | some v => cases aResultL P s.st l <;> rfl
theorem resAll_eq (P : Program) (s : CSt) (rs : Array ResultVar) : resAll P s.tt s.ht rs.toList = aResults P s.st rs := by
  unfold resAll aResults
  rw [resVs_eq]
  cases aResultL P s.st rs.toList with
  | none => rfl
  | some vs =>
    cases vs with
    | nil => rfl
    | cons v r => cases r <;> rfl
theorem argF_eq (l : List Value) : ∀ i t, argF l i t = argTree l i t := by
  induction l with
  | nil => intro i t; rfl
  | cons v l ih =>
    intro i t
    show argF l (Nat.succ i) ((slotOf i).set v t) = _
    rw [ih]
    rfl
theorem wantF_eq (ops : Array Oper) (s : CSt) (o : Oper) : wantF ops s.tt o.guard = wants ops s.st o := by
  unfold wants wantF
  cases o.guard with
  | none => rfl
  | some q =>
    obtain ⟨j, want⟩ := q
    show Option.rec (motive := fun _ => Bool) false (fun d => Option.rec (motive := fun _ => Bool) false (fun b => Bool.rec (motive := fun _ => Bool) (notB b) b want) (asBool (tmF s.tt d))) ((ops[j]?).bind (·.dst)) = _
    cases hd : (ops[j]?).bind (·.dst) with
    | none => simp only [hd]
    | some d =>
      simp only [hd, tmF_eq]
      have : s.st.tm d = s.tm d := rfl
      rw [this]
      cases s.tm d <;> first | rfl | (rename_i b; cases b <;> cases want <;> rfl)
theorem eqInts_spec {P : Program} {H : Heap} {d : Nat} {xs ys : List Value} : ∀ (fs : List Field) (i : Nat) (b : Bool), plainF P i fs = true → eqInts fs.length (xs.drop i) (ys.drop i) = some b → eqFields P (aEq P H (d + 1)) xs ys fs = some b := by
  intro fs
  induction fs with
  | nil => intro i b _ h; exact h
  | cons f fs ih =>
    intro i b hp h
    simp only [plainF, Bool.and_eq_true, decide_eq_true_eq] at hp
    obtain ⟨⟨⟨hn, ho⟩, ht⟩, hp'⟩ := hp
    have ho := Nat.eq_of_beq_eq_true ho
    obtain ⟨kk, hu⟩ : ∃ kk, P.underlying f.type = some (.int kk) := by
      split at ht
      · rename_i kk hk; exact ⟨kk, hk⟩
      · cases ht
    have part : ∀ (l : List Value), getPart P f.type l i = l[i]? := fun l => by unfold getPart; rw [hu]; rfl
    cases hx : xs.drop i with
    | nil => rw [hx] at h; cases h
    | cons x xs' =>
      cases hy : ys.drop i with
      | nil => rw [hx, hy] at h; cases h
      | cons y ys' =>
        rw [hx, hy] at h
        have hxi : xs[i]? = some x := by
          have := congrArg List.head? hx
          rw [List.head?_drop] at this; exact this
        have hyi : ys[i]? = some y := by
          have := congrArg List.head? hy
          rw [List.head?_drop] at this; exact this
        have hxs : xs.drop (i + 1) = xs' := by rw [← List.tail_drop, hx]; rfl
        have hys : ys.drop (i + 1) = ys' := by rw [← List.tail_drop, hy]; rfl
        have h' : eq2 (asInt x) (asInt y) (eqInts fs.length xs' ys') = some b := h
        simp only [eqFields]
        rw [if_neg hn, ho, part, part, hxi, hyi]
        simp only
        cases x with
        | int k n =>
          cases y with
          | int k' m =>
            have h2 : Bool.rec (motive := fun _ => Option Bool) none (Bool.rec (motive := fun _ => Option Bool) (some false) (eqInts fs.length xs' ys') (eqI n m)) (Nat.beq (kNo k) (kNo k')) = some b := h'
            rw [kNo_eq, eqI_eq] at h2
            simp only [aEq, hu]
            by_cases hk : k = k'
            · rw [decide_eq_true hk] at h2
              rw [if_pos hk]
              cases hnm : n == m with
              | true =>
                rw [hnm] at h2
                simp only
                exact ih (i + 1) b hp' (by rw [hxs, hys]; exact h2)
              | false => rw [hnm] at h2; exact h2
            · rw [decide_eq_false hk] at h2; cases h2
          | _ => cases h'
        | _ => cases h'
theorem aEq_struct {P : Program} {H : Heap} {kt : TypeId} {fs : Array Field} (d : Nat) (hu : P.underlying kt = some (.struct fs)) (hst : ¬ P.stoodInHeld kt = true) (xs ys : Array Value) :
    aEq P H (d + 1) kt (.agg xs) (.agg ys) = eqFields P (aEq P H d) xs.toList ys.toList fs.toList := by
  simp only [aEq, hu]
  rw [if_neg hst]
theorem ck_struct {P : Program} {kt : TypeId} {fs : Array Field} (d : Nat) (hu : P.underlying kt = some (.struct fs)) (cs : Array Value) :
    aCheckKey P (d + 1) kt (.agg cs) = fs.toList.all fun f => decide (f.name = "_") || (match getPart P f.type cs.toList f.offset with | some p => aCheckKey P d f.type p | none => false) := by
  simp only [aCheckKey, hu]
  rfl
theorem eqKey_eq (P : Program) (ht : Tree AObj) (kt : TypeId) (k k' : Value) : eqKey P ht kt k k' = aEq P ht.get 60 kt k k' := by
  unfold eqKey
  cases hk : keyK P kt with
  | none => rfl
  | some n =>
    cases k with
    | agg xs =>
      cases k' with
      | agg ys =>
        show Option.rec (motive := fun _ => Option Bool) (aEq P ht.get 60 kt (.agg xs) (.agg ys)) (fun b => some b) (eqInts n xs.toList ys.toList) = _
        cases he : eqInts n xs.toList ys.toList with
        | none => rfl
        | some b =>
          unfold keyK at hk
          split at hk
          · rename_i fs hu
            split at hk
            · cases hk
            · rename_i hst
              split at hk
              · rename_i hp
                cases hk
                have := eqInts_spec (P := P) (H := ht.get) (d := 58) (xs := xs.toList) (ys := ys.toList) fs.toList 0 b hp (by simpa using he)
                exact ((aEq_struct 59 hu hst xs ys).trans this).symm
              · cases hk
          · cases hk
      | _ => rfl
    | _ => rfl
theorem findF_eq (P : Program) (ht : Tree AObj) (kt : TypeId) (k : Value) (es : List (Value × Value)) : ∀ i, findF P ht kt k es i = aFind P ht.get kt k es i := by
  induction es with
  | nil => intro i; rfl
  | cons x l ih =>
    obtain ⟨k', v⟩ := x
    intro i
    show Option.rec (motive := fun _ => Option (Option (Nat × Value))) none (fun b => Bool.rec (motive := fun _ => Option (Option (Nat × Value))) (findF P ht kt k l (Nat.succ i)) (some (some (i, v))) b) (eqKey P ht kt k k') = _
    rw [eqKey_eq, ih]
    simp only [aFind]
    cases aEq P ht.get 60 kt k k' with
    | none => rfl
    | some b => cases b <;> rfl
theorem plainF_check {P : Program} {cs : List Value} {d : Nat} : ∀ (fs : List Field) (i : Nat), plainF P i fs = true → i + fs.length ≤ cs.length →
    (fs.all fun f => decide (f.name = "_") || (match getPart P f.type cs f.offset with | some p => aCheckKey P (d + 1) f.type p | none => false)) = true := by
  intro fs
  induction fs with
  | nil => intro i _ _; rfl
  | cons f fs ih =>
    intro i hp hl
    simp only [plainF, Bool.and_eq_true, decide_eq_true_eq] at hp
    obtain ⟨⟨⟨hn, ho⟩, ht⟩, hp'⟩ := hp
    have ho := Nat.eq_of_beq_eq_true ho
    obtain ⟨kk, hu⟩ : ∃ kk, P.underlying f.type = some (.int kk) := by
      split at ht
      · rename_i kk hk; exact ⟨kk, hk⟩
      · cases ht
    simp only [List.length_cons] at hl
    have part : getPart P f.type cs f.offset = some cs[i] := by
      unfold getPart; rw [hu, ho]
      exact List.getElem?_eq_getElem (by omega)
    rw [List.all_cons, ih (i + 1) hp' (by omega), part]
    simp [aCheckKey, hu]
theorem ckF_eq (P : Program) (kt : TypeId) (k : Value) : ckF P kt k = aCheckKey P 60 kt k := by
  unfold ckF
  cases hk : keyK P kt with
  | none => rfl
  | some n =>
    cases k with
    | agg xs =>
      show Bool.rec (motive := fun _ => Bool) (aCheckKey P 60 kt (.agg xs)) true (Nat.ble n (lenV xs.toList)) = _
      cases he : Nat.ble n (lenV xs.toList) with
      | false => rfl
      | true =>
        have hle := Nat.le_of_ble_eq_true he
        rw [lenV_eq] at hle
        unfold keyK at hk
        split at hk
        · rename_i fs hu
          split at hk
          · cases hk
          · split at hk
            · rename_i hp
              cases hk
              have := plainF_check (P := P) (cs := xs.toList) (d := 58) fs.toList 0 hp (by omega)
              exact ((ck_struct 59 hu xs).trans this).symm
            · cases hk
        · cases hk
    | _ => rfl
theorem lookupF_eq (P : Program) (ht : Tree AObj) (t : TypeId) (x k : Value) (ok : Bool) : lookupF P ht t x k ok = aLookup P ht.get t x k ok := by
  unfold lookupF aLookup
  simp only [findF_eq, ckF_eq]
  rfl
theorem updateF_eq (P : Program) (ht : Tree AObj) (t : TypeId) (m k v : Value) : updateF P ht t m k v = aMapUpdate P ht.get t m k v := by
  unfold updateF aMapUpdate
  simp only [findF_eq, ckF_eq]
  rfl
theorem mapEntryF_eq (P : Program) (ht : Tree AObj) (t : TypeId) (m k : Value) : mapEntryF P ht t m k = aMapEntry P ht.get t m k := by
  unfold mapEntryF aMapEntry
  simp only [findF_eq, ckF_eq]
  rfl
theorem fillF_eq (place : Nat → Option (Nat × Nat)) (parts : List (Nat × Value)) : ∀ cells, fillF place parts cells = aFill place cells parts := by
  induction parts with
  | nil => intro cells; rfl
  | cons x parts ih =>
    obtain ⟨i, v⟩ := x
    intro cells
    show Option.rec (motive := fun _ => Option (List Value)) none (fun q => Prod.rec (motive := fun _ => Option (List Value)) (fun off size =>
        Bool.rec (motive := fun _ => Option (List Value)) none (Option.rec (motive := fun _ => Option (List Value)) none (fillF place parts) (putL cells off (cellsF v))) (Nat.beq (lenV (cellsF v)) size)) q) (place i) = _
    simp only [aFill]
    cases place i with
    | none => rfl
    | some q =>
      obtain ⟨off, size⟩ := q
      show Bool.rec (motive := fun _ => Option (List Value)) none (Option.rec (motive := fun _ => Option (List Value)) none (fillF place parts) (putL cells off (cellsF v))) (Nat.beq (lenV (cellsF v)) size) = _
      rw [lenV_eq, cellsF_eq, beq_dec, putL_eq]
      simp only
      by_cases h : v.cells.toList.length = size
      · rw [decide_eq_true h]
        by_cases h2 : off + v.cells.toList.length ≤ cells.length
        · rw [if_pos h2, if_pos ⟨h, by rw [← h]; exact h2⟩]
          exact ih _
        · rw [if_neg h2, if_neg (fun q => h2 (by rw [h]; exact q.2))]
      · rw [decide_eq_false h]
        simp only [h, false_and, if_false]
theorem buildF_eq (P : Program) (t : TypeId) (parts : List (Nat × Value)) : buildF P t parts = aBuild P t parts := by
  unfold buildF aBuild bdK
  cases P.underlying t with
  | none => rfl
  | some d =>
    cases hz : zeroOf P t with
    | none => cases d <;> rfl
    | some z =>
      cases d with
      | struct fields =>
        simp only
        by_cases h : (fields.toList.all fun f => (szOf P f.type).isSome) = true
        · rw [if_pos h, if_pos h]
          simp only [fillF_eq]
          cases aFill (fieldPlaces P fields) z parts <;> rfl
        · rw [if_neg h, if_neg h]
      | array len elem =>
        simp only
        cases szOf P elem with
        | none => rfl
        | some size =>
          simp only [Option.map_some, fillF_eq]
          cases aFill (fun i => some (i * size, size)) z parts <;> rfl
      | _ => rfl
theorem buildSliceF_eq (P : Program) (nx : Nat) (t : TypeId) (len : Nat) (parts : List (Nat × Value)) : buildSliceF P nx t len parts = aBuildSlice P nx t len parts := by
  unfold buildSliceF aBuildSlice bsK
  cases P.underlying t with
  | none => rfl
  | some d =>
    cases d with
    | slice elem =>
      simp only
      cases szOf P elem with
      | none => rfl
      | some size =>
        cases zeroOf P elem with
        | none => rfl
        | some z =>
          simp only
          by_cases h : len * size ≤ 16777216 ∧ z.length = size
          · rw [if_pos h, if_pos h]
            simp only [fillF_eq]
            cases aFill (fun i => some (i * size, size)) (rep len z) parts <;> rfl
          · rw [if_neg h, if_neg h]
    | _ => rfl
theorem roomF_spec {m bytes : Nat} (h : roomF m bytes = true) : m ≤ 1099511627776 ∧ (2 * m + 192) * bytes ≤ 281474976710656 := by
  unfold roomF at h
  cases h1 : Nat.ble m 1099511627776 with
  | false => rw [h1] at h; cases h
  | true => rw [h1] at h; exact ⟨Nat.le_of_ble_eq_true h1, Nat.le_of_ble_eq_true h⟩
theorem band {a b : Bool} (h : Bool.rec (motive := fun _ => Bool) false b a = true) : a = true ∧ b = true := by
  cases a
  · cases h
  · exact ⟨rfl, h⟩
theorem growF_spec {ht : Tree AObj} {nx elem size bytes len n : Nat} {a : Addr} {xs : List Value} {r : Value × Eff} (h : growF ht nx elem size bytes a len n xs = some r) :
    ∃ c ro t old, ht.get a.block = some (.cells c size (some t) ro (some elem)) ∧ some t = a.spot ∧ ro = false ∧ (len + n ≤ 1099511627776 ∧ (2 * (len + n) + 192) * bytes ≤ 281474976710656) ∧ getc ht.get a (len * size) = some old ∧
      r = (.slice (some ⟨a.block, 0, some nx⟩) (len + n) (len + n), .bump a.block (.cells (old ++ xs) size (some nx) false (some elem))) := by
  obtain ⟨b, off, spot⟩ := a
  unfold growF at h
  simp only at h
  cases spot with
  | none => cases h
  | some sp =>
    have hb : (slotOf b).get ht = ht.get b := rfl
    simp only [hb] at h
    cases ho : ht.get b with
    | none => rw [ho] at h; cases h
    | some o =>
      rw [ho] at h
      cases o with
      | cells c esz tag ro q =>
        have h' : Bool.rec (motive := fun _ => Option (Value × Eff)) none
          (Option.rec (motive := fun _ => Option (Value × Eff)) none (fun old => some (.slice (some ⟨b, 0, some nx⟩) (Nat.add len n) (Nat.add len n), .bump b (.cells (old ++ xs) size (some nx) false q))) (cutV c off (Nat.mul len size)))
          (Bool.rec (motive := fun _ => Bool) false (Bool.rec (motive := fun _ => Bool) (Bool.rec (motive := fun _ => Bool) false (Bool.rec (motive := fun _ => Bool) false (roomF (Nat.add len n) bytes) (sameSpot q (some elem))) (Nat.beq esz size)) false ro) (sameSpot tag (some sp))) = some r := h
        clear h
        cases hc : (Bool.rec (motive := fun _ => Bool) false (Bool.rec (motive := fun _ => Bool) (Bool.rec (motive := fun _ => Bool) false (Bool.rec (motive := fun _ => Bool) false (roomF (Nat.add len n) bytes) (sameSpot q (some elem))) (Nat.beq esz size)) false ro) (sameSpot tag (some sp)) : Bool) with
        | false => rw [hc] at h'; cases h'
        | true =>
          rw [hc] at h'
          obtain ⟨k1, k2⟩ := band hc
          cases ro with
          | true => cases k2
          | false =>
            obtain ⟨k3, k4⟩ := band (a := Nat.beq esz size) k2
            obtain ⟨k5, k6⟩ := band k4
            rw [sameSpot_eq, decide_eq_true_eq] at k1 k5
            obtain rfl := Nat.eq_of_beq_eq_true k3
            subst k1 k5
            simp only at h'
            cases hcut : cutV c off (Nat.mul len esz) with
            | none => rw [hcut] at h'; cases h'
            | some old =>
              rw [hcut] at h'
              simp only [Option.some.injEq] at h'
              refine ⟨c, false, sp, old, rfl, rfl, rfl, roomF_spec k6, ?_, h'.symm⟩
              unfold getc
              simp only [ho]
              have hcut : cutV c off (len * esz) = some old := hcut
              rw [cutV_eq] at hcut
              have : off + len * esz ≤ c.length := by
                by_cases hle : off + len * esz ≤ c.length
                · exact hle
                · rw [if_neg hle] at hcut; cases hcut
              rw [if_pos ⟨trivial, this⟩]
              rw [if_pos this] at hcut
              exact hcut
      | _ => cases h
theorem appF_spec {P : Program} {ht : Tree AObj} {nx : Nat} {ts : Array TypeId} {s x : Value} {r : Value × Eff} (h : appF P ht nx ts s x = some r) : aAppend P ht.get nx ts s x = some r := by
  unfold appF at h
  cases hk : apK P ts with
  | none => rw [hk] at h; cases h
  | some q =>
    obtain ⟨elem, size, bytes⟩ := q
    rw [hk] at h
    simp only at h
    cases x with
    | slice xa n xc =>
      cases xa with
      | none => cases h
      | some xa =>
        obtain ⟨xb, xo, xspot⟩ := xa
        have hb : (slotOf xb).get ht = ht.get xb := rfl
        simp only [asSlc, hb] at h
        cases ho : ht.get xb with
        | none => rw [ho] at h; cases h
        | some o =>
          rw [ho] at h
          simp only at h
          rw [cellsAt_eq ht.get o xb xo _ xspot ho] at h
          cases hg : getc ht.get ⟨xb, xo, xspot⟩ (Nat.mul n size) with
          | none => rw [hg] at h; cases h
          | some xs =>
            rw [hg] at h
            simp only at h
            cases hones : ones' xs with
            | false => rw [hones] at h; cases h
            | true =>
              rw [hones] at h
              simp only at h
              cases hz : Nat.beq (Nat.mul n size) 0 with
              | true => rw [hz] at h; cases h
              | false =>
                rw [hz] at h
                simp only at h
                have hns : ¬ n * size = 0 := fun e => by
                  have : Nat.mul n size = 0 := e
                  rw [this] at hz; cases hz
                have hn : ¬ n = 0 := fun e => hns (by rw [e]; simp)
                cases s with
                | slice sa len cap =>
                  cases sa with
                  | none => cases h
                  | some a =>
                    have h' : growF ht nx elem size bytes a len n xs = some r := h
                    obtain ⟨c, ro, t, old, g1, g2, g3, g4, g5, g6⟩ := growF_spec h'
                    unfold apK at hk
                    split at hk
                    · rename_i st xt hs0 hx0
                      split at hk
                      · rename_i el xd hus hux
                        split at hk
                        · rename_i sz by' z hsz hby hzz
                          split at hk
                          · rename_i hcond
                            simp only [Option.some.injEq, Prod.mk.injEq] at hk
                            obtain ⟨rfl, rfl, rfl⟩ := hk
                            unfold aAppend
                            simp only [hs0, hx0, hus, hux, hsz, hby, hzz]
                            rw [if_pos hcond]
                            have hsrc : source ht.get sz (.slice (some ⟨xb, xo, xspot⟩) n xc) none = some (n, xs) := by
                              show (if cut n none * sz = 0 then some (cut n none, []) else (getc ht.get ⟨xb, xo, xspot⟩ (cut n none * sz)).map (cut n none, ·)) = some (n, xs)
                              have hns' : ¬ cut n none * sz = 0 := hns
                              have hg' : getc ht.get ⟨xb, xo, xspot⟩ (cut n none * sz) = some xs := hg
                              rw [if_neg hns', hg']
                              rfl
                            rw [hsrc]
                            simp only
                            have hall : xs.all (·.oneCell') = true := by rw [← ones'_eq]; exact hones
                            rw [if_pos hall]
                            simp only [g1]
                            rw [if_pos g2, if_neg (fun q => hn q.1)]
                            subst g3
                            rw [if_pos (by refine ⟨by trivial, by trivial, ?_, g4.1, g4.2⟩; first | trivial | exact .inr rfl | simp), g5, g6]
                            rfl
                          · cases hk
                        · cases hk
                      · cases hk
                    · cases hk
                | _ => cases h
    | _ => cases h
theorem appendF_eq (P : Program) (ht : Tree AObj) (nx : Nat) (ts : Array TypeId) (s x : Value) : appendF P ht nx ts s x = aBuiltin P ht.get nx .append ts [s, x] := by
  unfold appendF
  cases h : appF P ht nx ts s x with
  | none => rfl
  | some r =>
    have := appF_spec h
    simp only [aBuiltin, this]
end Go.Am

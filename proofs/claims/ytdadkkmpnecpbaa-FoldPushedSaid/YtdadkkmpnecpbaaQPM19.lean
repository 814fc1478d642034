import Derived.Test.YtdadkkmpnecpbaaQPM17
import Derived.Test.YtdadkkmpnecpbaaQPM16
import Derived.Test.YtdadkkmpnecpbaaQPM18
import Derived.Test.YtdadkkmpnecpbaaQPM15
namespace Go.Am
set_option linter.unusedSimpArgs false
set_option linter.unusedVariables false
set_option linter.unnecessarySimpa false
open Go.RowKit
inductive Co where
  | old | self | next | of | entry | table | final | inn | low | ret | tmp
  | tab (c : Nat) | inn1 (p : Nat) | low1 (p : Nat) | ret1 (p : Nat) | ret2 (p j : Nat)
structure CH where
  nx : Nat
  C : Nat → Co
  H : Heap
def Chg (S : List Co) (a b : CH) : Prop := a.nx ≤ b.nx ∧ ∀ i, i < a.nx → b.C i = a.C i ∧ (a.C i ∉ S → b.H i = a.H i)
theorem Chg.mono {S T : List Co} {a b : CH} (h : Chg S a b) (hs : ∀ c, c ∈ S → c ∈ T) : Chg T a b := ⟨h.1, fun i hi => ⟨(h.2 i hi).1, fun hn => (h.2 i hi).2 fun q => hn (hs _ q)⟩⟩
theorem Chg.trans {S : List Co} {a b c : CH} (h : Chg S a b) (k : Chg S b c) : Chg S a c :=
  ⟨Nat.le_trans h.1 k.1, fun i hi => by
    have h1 := h.2 i hi
    have h2 := k.2 i (Nat.lt_of_lt_of_le hi h.1)
    exact ⟨h2.1.trans h1.1, fun hn => (h2.2 (by rw [h1.1]; exact hn)).trans (h1.2 hn)⟩⟩
theorem Chg.trans2 {S T U : List Co} {a b c : CH} (h : Chg S a b) (k : Chg T b c) (h1 : ∀ c, c ∈ S → c ∈ U) (h2 : ∀ c, c ∈ T → c ∈ U) : Chg U a c := (h.mono h1).trans (k.mono h2)
theorem Chg.same {S : List Co} {a b : CH} (h : Chg S a b) {c : Co} (hc : c ∉ S) {i : Nat} (hi : i < a.nx) (hC : a.C i = c) : b.H i = a.H i := (h.2 i hi).2 (by rw [hC]; exact hc)
theorem Chg.hue {S : List Co} {a b : CH} (h : Chg S a b) {i : Nat} (hi : i < a.nx) : b.C i = a.C i := (h.2 i hi).1
theorem own_same {H H' : Heap} {ob : Option (Nat × Nat)} {el : TypeId} {sz k : Nat} {v : Value} {cs : List Value} (hs : ∀ b t, ob = some (b, t) → H' b = H b) (h : OwnRow H ob el sz v cs k) : OwnRow H' ob el sz v cs k := by
  cases ob with
  | none => exact h
  | some bt =>
    obtain ⟨b, t⟩ := bt
    obtain ⟨h1, h2, rest, h3⟩ := h
    exact ⟨h1, h2, rest, by rw [hs b t rfl]; exact h3⟩
def ObC (c : Co) (σ : CH) (b : Nat) (o : AObj) : Prop := b < σ.nx ∧ σ.C b = c ∧ σ.H b = some o
theorem ObC.keep {S : List Co} {σ τ : CH} {c : Co} {b : Nat} {o : AObj} (h : Chg S σ τ) (hc : c ∉ S) (ho : ObC c σ b o) : ObC c τ b o :=
  ⟨Nat.lt_of_lt_of_le ho.1 h.1, (h.hue ho.1).trans ho.2.1, (h.same hc ho.1 ho.2.1).trans ho.2.2⟩
def IntsC (c : Co) (σ : CH) (v : Value) (l : List Int) : Prop :=
  (∃ k, v = .slice none 0 k ∧ l = []) ∨ ∃ a k, v = .slice (some a) l.length k ∧ ∀ (i : Nat) (h : i < l.length), (a.block < σ.nx ∧ σ.C a.block = c) ∧ cellAt σ.H ⟨a.block, a.off + i, a.spot⟩ (.int .i64 l[i])
def encBo (b : Bool) : List Value := [.bool b]
theorem encBo_len (b : Bool) : (encBo b).length = 1 := rfl
theorem encBo_one (b : Bool) : (encBo b).all (·.oneCell') = true := rfl
abbrev SV := Option Addr × Nat × Nat
def slV (s : SV) : Value := .slice s.1 s.2.1 s.2.2
def encS (s : SV) : List Value := [slV s]
theorem encS_len (s : SV) : (encS s).length = 1 := rfl
theorem encS_one (s : SV) : (encS s).all (·.oneCell') = true := rfl
def OwnC {α : Type} (enc : α → List Value) (el : TypeId) (c : Co) (σ : CH) (v : Value) (l : List α) : Prop := ∃ ob, OwnOf enc 1 el σ.H ob v l ∧ ∀ b t, ob = some (b, t) → b < σ.nx ∧ σ.C b = c
section
variable {α : Type} {enc : α → List Value} {el : TypeId} {c : Co} {S : List Co} {σ τ : CH} {v : Value} {l : List α}
theorem OwnC.keep (h : Chg S σ τ) (hc : c ∉ S) (ho : OwnC enc el c σ v l) : OwnC enc el c τ v l := by
  obtain ⟨ob, h1, h2⟩ := ho
  refine ⟨ob, own_same (fun b t e => ?_) h1, fun b t e => ?_⟩
  · obtain ⟨q1, q2⟩ := h2 b t e
    exact h.same hc q1 q2
  · obtain ⟨q1, q2⟩ := h2 b t e
    exact ⟨Nat.lt_of_lt_of_le q1 h.1, (h.hue q1).trans q2⟩
theorem OwnC.nil : OwnC enc el c σ (.slice none 0 0) ([] : List α) := ⟨none, ⟨rfl, rfl, rfl⟩, fun _ _ h => by cases h⟩
theorem OwnC.at (hk : ∀ x, (enc x).length = 1) (ho : OwnC enc el c σ v l) : RowsAt enc 1 σ.H v l := by
  obtain ⟨ob, h1, _⟩ := ho
  exact h1.at hk
end
theorem OwnC.ints {el : TypeId} {c : Co} {σ : CH} {v : Value} {l : List Int} (h : OwnC encN el c σ v l) : IntsAt σ.H v l := rows_intsN (h.at encN_len)
theorem rows_bools {H : Heap} {v : Value} {l : List Bool} (h : RowsAt encBo 1 H v l) : BoolsAt H v l := by
  rcases h with h | ⟨a, c, rfl, hc⟩
  · exact .inl h
  · exact .inr ⟨a, c, rfl, fun i hi => ⟨_, by have := hc i hi; simpa [cellAt, encBo] using this, rfl⟩⟩
theorem OwnC.bools {el : TypeId} {c : Co} {σ : CH} {v : Value} {l : List Bool} (h : OwnC encBo el c σ v l) : BoolsAt σ.H v l := rows_bools (h.at encBo_len)
def AllC {α : Type} (R : Nat → CH → Value → α → Prop) (σ : CH) (vs : List SV) (l : List α) : Prop := vs.length = l.length ∧ ∀ i x, l[i]? = some x → ∃ u, vs[i]? = some u ∧ R i σ (slV u) x
def OwnLC {α : Type} (R : Nat → CH → Value → α → Prop) (el : TypeId) (c : Co) (σ : CH) (v : Value) (l : List α) : Prop := ∃ vs, OwnC encS el c σ v vs ∧ AllC R σ vs l
section
variable {α : Type} {R : Nat → CH → Value → α → Prop} {el : TypeId} {c : Co} {S : List Co} {σ τ : CH} {v : Value} {l : List α} {vs : List SV}
theorem AllC.nil : AllC R σ [] ([] : List α) := ⟨rfl, fun i x h => by simp at h⟩
theorem AllC.keep (hR : ∀ i u x, i < l.length → R i σ u x → R i τ u x) (h : AllC R σ vs l) : AllC R τ vs l :=
  ⟨h.1, fun i x hx => by obtain ⟨u, h1, h2⟩ := h.2 i x hx; exact ⟨u, h1, hR _ _ _ (List.getElem?_eq_some_iff.1 hx).1 h2⟩⟩
theorem AllC.push {u : SV} {x : α} (h : AllC R σ vs l) (hx : R l.length σ (slV u) x) : AllC R σ (vs ++ [u]) (l ++ [x]) := by
  refine ⟨by simp [h.1], fun i y hy => ?_⟩
  by_cases hi : i < l.length
  · rw [List.getElem?_append_left hi] at hy
    obtain ⟨w, h1, h2⟩ := h.2 i y hy
    exact ⟨w, by rw [List.getElem?_append_left (by rw [h.1]; exact hi)]; exact h1, h2⟩
  · rw [List.getElem?_append_right (by omega)] at hy
    have : i - l.length = 0 := by
      by_cases e : i - l.length = 0
      · exact e
      · rw [List.getElem?_eq_none (by simp; omega)] at hy; cases hy
    rw [this] at hy
    cases hy
    have hi2 : i = l.length := by omega
    subst hi2
    have hl := h.1
    exact ⟨u, by rw [List.getElem?_append_right (by omega), hl]; simp, hx⟩
theorem OwnLC.nil : OwnLC R el c σ (.slice none 0 0) ([] : List α) := ⟨[], .nil, .nil⟩
theorem OwnLC.keep (h : Chg S σ τ) (hc : c ∉ S) (hR : ∀ i u x, i < l.length → R i σ u x → R i τ u x) (ho : OwnLC R el c σ v l) : OwnLC R el c τ v l := by
  obtain ⟨vs, h1, h2⟩ := ho
  exact ⟨vs, h1.keep h hc, h2.keep hR⟩
theorem OwnLC.at {R' : Heap → Value → α → Prop} (hR : ∀ i u x, R i σ u x → R' σ.H u x) (ho : OwnLC R el c σ v l) : ListAt R' σ.H v l := by
  obtain ⟨vs, h1, h2⟩ := ho
  rcases h1.at encS_len with ⟨k, rfl, rfl⟩ | ⟨a, k, rfl, h3⟩
  · exact .inl ⟨k, rfl, List.eq_nil_of_length_eq_zero h2.1.symm⟩
  · refine .inr ⟨a, k, by rw [h2.1], fun i hi => ?_⟩
    obtain ⟨u, q1, q2⟩ := h2.2 i l[i] (List.getElem?_eq_getElem hi)
    obtain ⟨q3, q4⟩ := List.getElem?_eq_some_iff.1 q1
    have := h3 i q3
    rw [q4] at this
    exact ⟨slV u, by simpa [cellAt, encS] using this, hR _ _ _ q2⟩
end
def PlainC (el : TypeId) (c : Co) (σ : CH) (v : Value) (cs : List Value) : Prop := ∃ b, v = .slice (some ⟨b, 0, none⟩) cs.length cs.length ∧ ObC c σ b (.cells cs 1 none false (some el))
theorem PlainC.keep {el : TypeId} {S : List Co} {σ τ : CH} {c : Co} {v : Value} {cs : List Value} (h : Chg S σ τ) (hc : c ∉ S) (ho : PlainC el c σ v cs) : PlainC el c τ v cs := by
  obtain ⟨b, h1, h2⟩ := ho
  exact ⟨b, h1, h2.keep h hc⟩
theorem ObC.cell {c : Co} {σ : CH} {b e : Nat} {cs : List Value} {tg : Option Nat} {ro : Bool} {q : Option TypeId} {k : Nat} {v : Value} (h : ObC c σ b (.cells cs e tg ro q)) (hk : cs[k]? = some v) : cellAt σ.H ⟨b, k, tg⟩ v := cell_of h.2.2 hk
theorem PlainC.ints {el : TypeId} {c : Co} {σ : CH} {v : Value} {l : List Int} (h : PlainC el c σ v (l.map (.int .i64 ·))) : IntsAt σ.H v l := by
  obtain ⟨b, h1, h2⟩ := h
  rw [List.length_map] at h1
  refine .inr ⟨_, _, h1, fun i hi => ?_⟩
  rw [Nat.zero_add]
  exact h2.cell (by rw [List.getElem?_map, List.getElem?_eq_getElem hi]; rfl)
attribute [local irreducible] aop OpsL Trip blockExit OpsD OpsK OpsR OpsQ
section
variable {P : Program} {W0 : World} {σ : CH} {n : Nat} {ops : Array Oper} {l : List Oper} {tm : Nat → Value} {QQ : ASt → Prop} {d : Tmp} {type : TypeId} {pos : String} {after : Array Edge}
theorem OpsL.litC {α : Type} {enc : α → List Value} {z : α} {a : Value} {el st : TypeId} {x : Operand} (he : enc z = [a]) (hx : ASt.ev ⟨tm, n, σ.H, σ.nx⟩ x = some a)
    (hb : aBuildSlice P σ.nx st 1 [(0, a)] = some (.slice (some ⟨σ.nx, 0, none⟩) 1 1, .new (.cells [a] 1 none false (some el)))) (hd : d < n)
    (h : ∀ τ, Chg [] σ τ → RowsAt enc 1 τ.H (.slice (some ⟨σ.nx, 0, none⟩) 1 1) [z] → OpsL P W0 ops l ⟨tmPut tm (some d) (.slice (some ⟨σ.nx, 0, none⟩) 1 1), n, τ.H, τ.nx⟩ QQ) :
    OpsL P W0 ops (⟨some d, .buildSlice st 1 #[(0, x)], type, pos, after, none⟩ :: l) ⟨tm, n, σ.H, σ.nx⟩ QQ := by
  refine OpsL.new hd (aop_buildSlice (l := [(0, a)]) (by simp [evParts, hx]) hb) ?_
  refine h ⟨σ.nx + 1, fun i => if i < σ.nx then σ.C i else .tmp, σ.H.put σ.nx (.cells [a] 1 none false (some el))⟩ ⟨Nat.le_succ _, fun i hi => ⟨if_pos hi, fun _ => Heap.put_ne (by omega)⟩⟩ (.inr ⟨⟨σ.nx, 0, none⟩, 1, rfl, fun i hi => ?_⟩)
  have hi0 : i = 0 := by simpa using hi
  subst hi0
  show getc (σ.H.put σ.nx _) ⟨σ.nx, 0 + 0 * 1, none⟩ 1 = some (enc z)
  rw [he]
  exact getc_own (by show 0 + 0 * 1 + 1 ≤ 1; decide)
theorem OpsL.appC {α : Type} {enc : α → List Value} {bytes : Nat} {z : List Value} {el st xt : TypeId} {c : Co} {v u : Value} {zs us : List α} {x y : Operand} (hk : ∀ x, (enc x).length = 1) (h1 : ∀ x, (enc x).all (·.oneCell') = true) (h : OwnC enc el c σ v zs) (hu : RowsAt enc 1 σ.H u us)
    (hst : P.underlying st = some (.slice el)) (hxt : P.underlying xt = some (.slice el)) (hsz : szOf P el = some 1) (hby : bytesOfT P el = some bytes) (hz : zeroOf P el = some z) (hzl : z.length = 1) (hle : zs.length + us.length ≤ 1000000) (hbl : bytes ≤ 1000)
    (hx : ASt.ev ⟨tm, n, σ.H, σ.nx⟩ x = some v) (hy : ASt.ev ⟨tm, n, σ.H, σ.nx⟩ y = some u) (hd : d < n)
    (hc : ∀ v' τ, OwnC enc el c τ v' (zs ++ us) → Chg [c] σ τ → OpsL P W0 ops l ⟨tmPut tm (some d) v', n, τ.H, τ.nx⟩ QQ) :
    OpsL P W0 ops (⟨some d, .call ⟨.builtin .append, #[x, y], #[st, xt]⟩, type, pos, after, none⟩ :: l) ⟨tm, n, σ.H, σ.nx⟩ QQ := by
  obtain ⟨ob, ho, hob⟩ := h
  refine OpsL.appendO hk h1 (by decide) hd ho hu hx hy (fun b t e => (hob b t e).1) hst hxt hsz hby hz hzl hle hbl ?_
  intro v' nx' H' ob' hA
  refine hc v' ⟨nx', fun i => if i < σ.nx then σ.C i else c, H'⟩ ⟨ob', hA.own, fun b t e => ?_⟩ ⟨hA.le, fun i hi => ⟨if_pos hi, fun hn => hA.same i hi fun b t e hib => ?_⟩⟩
  · obtain ⟨q1, q2⟩ := hA.blk b t e
    refine ⟨q1, ?_⟩
    rcases q2 with rfl | ⟨t', e'⟩
    · exact if_neg (Nat.lt_irrefl _)
    · obtain ⟨q3, q4⟩ := hob _ _ e'
      show (if b < σ.nx then σ.C b else c) = c
      rw [if_pos q3, q4]
  · subst hib
    rw [(hob _ _ e).2] at hn
    exact hn (List.mem_singleton.2 rfl)
theorem OpsL.setC {c : Co} {b e k : Nat} {cs cs' : List Value} {tg : Option Nat} {q : Option TypeId} {t : TypeId} {x y : Operand} {v : Value} {p : Addr} (ho : ObC c σ b (.cells cs e tg false q)) (hk : k < cs.length) (hcs : cs.set k v = cs')
    (hz : szOf P t = some 1) (hv : v.cells = #[v]) (h1 : v.oneCell' = true)
    (hx : ASt.ev ⟨tm, n, σ.H, σ.nx⟩ x = some (.pointer (some p))) (hy : ASt.ev ⟨tm, n, σ.H, σ.nx⟩ y = some v) (hp : p = ⟨b, k, tg⟩)
    (h : ∀ τ, ObC c τ b (.cells cs' e tg false q) → Chg [c] σ τ → τ.nx = σ.nx → OpsL P W0 ops l ⟨tm, n, τ.H, τ.nx⟩ QQ) :
    OpsL P W0 ops (⟨none, .store t x y, type, pos, after, none⟩ :: l) ⟨tm, n, σ.H, σ.nx⟩ QQ := by
  subst hp
  refine OpsL.storeAt k hx hy hz hv h1 ho.2.2 rfl hk hcs ?_
  refine h ⟨σ.nx, σ.C, σ.H.put b (.cells cs' e tg false q)⟩ ⟨ho.1, ho.2.1, Heap.put_eq⟩ ⟨Nat.le_refl _, fun i hi => ⟨rfl, fun hn => Heap.put_ne fun e => ?_⟩⟩ rfl
  subst e
  rw [ho.2.1] at hn
  exact hn (List.mem_singleton.2 rfl)
theorem OpsL.newC (c : Co) {o : AObj} {op : Op} {v : Value} (hop : aop P σ.H σ.nx (ASt.ev ⟨tm, n, σ.H, σ.nx⟩) ⟨some d, op, type, pos, after, none⟩ = some (v, .new o)) (hd : d < n)
    (h : ∀ τ, ObC c τ σ.nx o → Chg [] σ τ → OpsL P W0 ops l ⟨tmPut tm (some d) v, n, τ.H, τ.nx⟩ QQ) :
    OpsL P W0 ops (⟨some d, op, type, pos, after, none⟩ :: l) ⟨tm, n, σ.H, σ.nx⟩ QQ := by
  refine OpsL.new hd hop ?_
  exact h ⟨σ.nx + 1, fun i => if i < σ.nx then σ.C i else c, σ.H.put σ.nx o⟩ ⟨Nat.lt_succ_self _, if_neg (Nat.lt_irrefl _), Heap.put_eq⟩ ⟨Nat.le_succ _, fun i hi => ⟨if_pos hi, fun _ => Heap.put_ne (by omega)⟩⟩
end
end Go.Am
namespace Go.Am
set_option linter.unusedSimpArgs false
set_option linter.unusedVariables false
set_option linter.unnecessarySimpa false
open Go.RowKit
def getF (ns : List Int) (j : Nat) (m : Int) : Int := if (ns.length : Int) < j then (j : Int) % m else (ns.getD (j - 1) 0) % m
section
variable {P : Program} {H : Heap} {nx : Nat} {ev : Operand → Option Value} {dst : Option Tmp} {type : TypeId} {pos : String} {after : Array Edge} {guard : Option (Nat × Bool)}
theorem aop_nilCheck {x : Operand} {a : Addr} (hx : ev x = some (.pointer (some a))) : aop P H nx ev ⟨dst, .nilCheck x, type, pos, after, guard⟩ = some (.pointer (some a), .none) := by simp [aop, hx]
end
end Go.Am
namespace Go.Proofs.Ytdadkkmpnecpbaa
set_option linter.unusedSimpArgs false
set_option linter.unusedVariables false
set_option linter.unnecessarySimpa false
open Go.Am Go.RowKit
attribute [local irreducible] aop OpsL Trip blockExit OpsD OpsK OpsR OpsQ
def nextO (nv : Value) (cnt : Nat) : AObj := .cells [nv, .int .i64 cnt] 0 none false (some 56)
end Go.Proofs.Ytdadkkmpnecpbaa
namespace Go.Am
set_option linter.unusedSimpArgs false
set_option linter.unusedVariables false
set_option linter.unnecessarySimpa false
open Go.RowKit
def tabF (o : List Int) (c : Int) : List Int := ((List.range o.length).filter fun p => decide (o.getD p 0 = c)).map fun (p : Nat) => (p : Int)
def drawRow (ns : List Int) (L : Nat → List Int) (cnt m : Nat) : List Int := (List.range m).map fun i => (L i).getD (getF ns (cnt + i + 1) (L i).length).toNat 0
def l1F (ns : List Int) (k : Nat) : Nat → Nat × List Int × List Bool
  | 0 => (0, [], [])
  | i + 1 =>
    let s := l1F ns k i
    let n1 := if i < k then s.1 else s.1 + 1
    (n1 + 1, s.2.1 ++ [if i < k then (i : Int) else getF ns (s.1 + 1) k], s.2.2 ++ [decide (getF ns (n1 + 1) 3 = 0)])
def cntF (o : List Int) (pl cl n c0 : Nat) : Nat → Nat
  | 0 => c0
  | p + 1 => cntF o pl cl n c0 p + pl + (if o.getD p 0 = 0 then cl else cl * n)
structure MkP where
  pl : Nat
  cl : Nat
  k : Nat
  n : Nat
structure MkP.ok (q : MkP) : Prop where
  pl : q.pl ≤ 2
  cl : q.cl ≤ 2
  k1 : 1 ≤ q.k
  k3 : q.k ≤ 3
  n1 : q.k ≤ q.n
  n8 : q.n ≤ 8
def innD (ns : List Int) (q : MkP) (o : List Int) (c2 p : Nat) : List Int := drawRow ns (fun _ => tabF o (o.getD p 0)) (cntF o q.pl q.cl q.n c2 p) q.pl
def lowD (ns : List Int) (q : MkP) (o : List Int) (c2 p : Nat) : List Int := if o.getD p 0 = 0 then drawRow ns (fun _ => tabF o (o.getD p 0)) (cntF o q.pl q.cl q.n c2 p + q.pl) q.cl else []
def retR (ns : List Int) (q : MkP) (o : List Int) (c3 j : Nat) : List Int := drawRow ns (fun x => tabF o (o.getD x 0)) (c3 + j * q.n) q.n
def retD (ns : List Int) (q : MkP) (o : List Int) (c2 p : Nat) : List (List Int) := if o.getD p 0 = 0 then [] else (List.range q.cl).map fun j => retR ns q o (cntF o q.pl q.cl q.n c2 p + q.pl) j
theorem map_range_getD {α : Type} {f : Nat → α} {d : α} {n i : Nat} (h : i < n) : ((List.range n).map f).getD i d = f i := by
  rw [List.getD_eq_getElem?_getD, List.getElem?_map, List.getElem?_range h]
  rfl
section
variable {ns : List Int} {q : MkP} (hq : q.ok)
include hq
omit hq in
omit hq in
end
end Go.Am
namespace Go.Am
set_option linter.unusedSimpArgs false
set_option linter.unusedVariables false
set_option linter.unnecessarySimpa false
open Go.RowKit
def OldC (σ0 σ : CH) : Prop := σ0.nx ≤ σ.nx ∧ ∀ i, i < σ0.nx → σ.C i = .old ∧ σ.H i = σ0.H i
theorem OldC.keep {S : List Co} {σ0 σ τ : CH} (h : Chg S σ τ) (hc : Co.old ∉ S) (ho : OldC σ0 σ) : OldC σ0 τ :=
  ⟨Nat.le_trans ho.1 h.1, fun i hi => by
    obtain ⟨q1, q2⟩ := ho.2 i hi
    have hi' := Nat.lt_of_lt_of_le hi ho.1
    exact ⟨(h.hue hi').trans q1, (h.same hc hi' q1).trans q2⟩⟩
theorem OldC.ext {σ0 σ : CH} (h : OldC σ0 σ) : Ext σ0.nx σ0.H σ.nx σ.H := ⟨h.1, fun i hi => (h.2 i hi).2⟩
structure MkX where
  A : Nat
  B : Nat
  a4 : Nat
  nv : Value
  tv : Value
  ns : List Int
  pl : Int
  cl : Int
structure MkD where
  cnt : Nat
  L : List Int
  E : List Int
  T : List (List Int)
  f : List Bool
  I : List (List Int)
  W : List (List Int)
  R : List (List (List Int))
def moC (pl cl : Int) (V : MoV) : List Value := [.int .i64 pl, .int .i64 cl, V.o, V.e, V.f, V.i, V.l, V.r]
end Go.Am
namespace Go.Proofs.Ytdadkkmpnecpbaa
set_option linter.unusedSimpArgs false
set_option linter.unusedVariables false
set_option linter.unnecessarySimpa false
open Go.Am Go.RowKit
abbrev RowI (c : Co) (σ : CH) (v : Value) (l : List Int) : Prop := OwnC encN 3 c σ v l
abbrev Row2 (d : Nat → Co) (c : Co) (σ : CH) (v : Value) (l : List (List Int)) : Prop := OwnLC (fun p => RowI (d p)) 22 c σ v l
abbrev Row3 (σ : CH) (v : Value) (l : List (List (List Int))) : Prop := OwnLC (fun p => Row2 (.ret2 p) (.ret1 p)) 26 .ret σ v l
def mObj (pl cl : Int) (V : MoV) : AObj := .cells (moC pl cl V) 0 none false (some 29)
def TabC (σ : CH) (tv : Value) (T : List (List Int)) : Prop := ∃ vs : List SV, PlainC 22 .table σ tv (vs.map slV) ∧ AllC (fun c => RowI (.tab c)) σ vs T
structure MkS (σ0 σ : CH) (X : MkX) (D : MkD) (V : MoV) : Prop where
  old : OldC σ0 σ
  a : ObC .self σ X.A (mObj X.pl X.cl V)
  b : ObC .next σ X.B (nextO X.nv D.cnt)
  r : ∃ cs, cs.length = 8 ∧ ObC .tmp σ X.a4 (.cells cs 0 none false (some 29))
  n : IntsC .old σ X.nv X.ns
  of : PlainC 3 .of σ V.o (D.L.map (.int .i64 ·))
  en : PlainC 3 .entry σ V.e (D.E.map (.int .i64 ·))
  tb : TabC σ X.tv D.T
  fi : OwnC encBo 4 .final σ V.f D.f
  inn : Row2 .inn1 .inn σ V.i D.I
  low : Row2 .low1 .low σ V.l D.W
  ret : Row3 σ V.r D.R
theorem RowI.keepL {S : List Co} {σ τ : CH} {c : Co} {v : Value} {l : List Int} (h : Chg S σ τ) (hc : c ∉ S) (ho : RowI c σ v l) : RowI c τ v l := OwnC.keep h hc ho
section
variable {σ0 σ τ : CH} {X : MkX} {D : MkD} {V : MoV} {S : List Co}
end
structure MkO (σ : CH) (m : Mo) (V : MoV) : Prop where
  of : PlainC 3 .of σ V.o (m.of.map (.int .i64 ·))
  en : PlainC 3 .entry σ V.e (m.entry.map (.int .i64 ·))
  fi : OwnC encBo 4 .final σ V.f m.final
  inn : Row2 .inn1 .inn σ V.i m.inn
  low : Row2 .low1 .low σ V.l m.low
  ret : Row3 σ V.r m.ret
end Go.Proofs.Ytdadkkmpnecpbaa
namespace Go.Am
open Go.RowKit
section
variable {P : Program} {W0 : World} {ops : Array Oper} {acts : List Nat} {K : Nat → Heap → Prop}
end
theorem setc_allN {H : Heap} {b e : Nat} {c vs : List Value} {t : Option Nat} {q : Option TypeId} (h : H b = some (.cells c e t false q)) (hl : vs.length = c.length) (ho : vs.all (·.oneCell') = true) : setc H ⟨b, 0, t⟩ vs = some (.cells vs e t false q) := by
  unfold setc
  simp only [h]
  rw [if_pos ⟨trivial, by omega, trivial, ho⟩]
  simp [hl]
end Go.Am
namespace Go.Am
set_option linter.unusedSimpArgs false
set_option linter.unusedVariables false
set_option linter.unnecessarySimpa false
open Go.RowKit
def subC : List Nat → Code → Code
  | 0 :: p, .seq a _ => subC p a
  | 1 :: p, .seq _ b => subC p b
  | 2 :: p, .block _ c => subC p c
  | 2 :: p, .loop c => subC p c
  | 3 :: p, .cond _ a _ => subC p a
  | 4 :: p, .cond _ _ b => subC p b
  | _, c => c
def bodyMk (fn : Func) : Code := match fn.body with | some c => c | none => .skip
structure T1 (tm : Nat → Value) (X : MkX) (q : MkP) : Prop where
  t4 : tm 4 = .pointer (some ⟨X.a4, 0, none⟩)
  t5 : tm 5 = .pointer (some ⟨X.A, 0, none⟩)
  t6 : tm 6 = .int .i64 q.k
  t7 : tm 7 = .int .i64 q.n
  t8 : tm 8 = .pointer (some ⟨X.B, 0, none⟩)
  t9 : tm 9 = X.tv
def d1 (ns : List Int) (q : MkP) (i : Nat) : MkD := ⟨(l1F ns q.k i).1, (l1F ns q.k i).2.1 ++ List.replicate (q.n - i) 0, List.replicate q.k 0, (List.range q.k).map fun (c : Nat) => tabF (l1F ns q.k i).2.1 (c : Int), (l1F ns q.k i).2.2, [], [], []⟩
theorem AllC.set {α : Type} {R : Nat → CH → Value → α → Prop} {σ τ : CH} {vs : List SV} {l : List α} {c : Nat} {u : SV} {x : α} (h : AllC R σ vs l) (hR : ∀ i u x, i < l.length → i ≠ c → R i σ u x → R i τ u x) (hx : R c τ (slV u) x) : AllC R τ (vs.set c u) (l.set c x) := by
  refine ⟨by simp [h.1], fun i y hy => ?_⟩
  rw [List.getElem?_set] at hy
  split at hy
  · rename_i e
    subst e
    split at hy
    · rename_i hlt
      cases hy
      exact ⟨u, by rw [List.getElem?_set_self (by rw [h.1]; exact hlt)], hx⟩
    · cases hy
  · rename_i e
    obtain ⟨w, h1, h2⟩ := h.2 i y hy
    exact ⟨w, by rw [List.getElem?_set_ne e]; exact h1, hR _ _ _ (List.getElem?_eq_some_iff.1 hy).1 (fun q => e q.symm) h2⟩
theorem map_set_range {α : Type} {f g : Nat → α} {k c : Nat} {x : α} (hc : c < k) (hx : x = g c) (h : ∀ i, i ≠ c → f i = g i) : ((List.range k).map f).set c x = (List.range k).map g := by
  apply List.ext_getElem?
  intro i
  by_cases e : c = i
  · subst e
    rw [List.getElem?_set_self (by simpa using hc), List.getElem?_map, List.getElem?_range hc, hx]; rfl
  · rw [List.getElem?_set_ne e, List.getElem?_map, List.getElem?_map]
    by_cases hi : i < k
    · rw [List.getElem?_range hi]; simp [h i (fun q => e q.symm)]
    · rw [List.getElem?_eq_none (by simp; omega)]; rfl
theorem OwnC.slice {α : Type} {enc : α → List Value} {el : TypeId} {c : Co} {σ : CH} {v : Value} {l : List α} (hk : ∀ x, (enc x).length = 1) (h : OwnC enc el c σ v l) : ∃ a k, v = .slice a l.length k := (h.at hk).slice
theorem PlainC.block {el : TypeId} {c : Co} {σ : CH} {v : Value} {l : List Int} (h : PlainC el c σ v (l.map (.int .i64 ·))) : ∃ b, v = .slice (some ⟨b, 0, none⟩) l.length l.length ∧ ObC c σ b (.cells (l.map (.int .i64 ·)) 1 none false (some el)) := by
  obtain ⟨b, h1, h2⟩ := h
  rw [List.length_map] at h1
  exact ⟨b, h1, h2⟩
end Go.Am
namespace Go.Proofs.Ytdadkkmpnecpbaa
set_option linter.unusedSimpArgs false
set_option linter.unusedVariables false
set_option linter.unnecessarySimpa false
open Go.Am Go.RowKit
attribute [local irreducible] aop OpsL Trip blockExit OpsD OpsK OpsR OpsQ
theorem TabC.row {σ : CH} {tv : Value} {T : List (List Int)} (h : TabC σ tv T) {c : Nat} (hc : c < T.length) : ∃ (vs : List SV) (b : Nat) (a : Option Addr) (k : Nat), tv = .slice (some ⟨b, 0, none⟩) T.length T.length ∧ ObC .table σ b (.cells (vs.map slV) 1 none false (some 22)) ∧ AllC (fun c => RowI (.tab c)) σ vs T ∧ vs[c]? = some (a, (T.getD c []).length, k) ∧ RowI (.tab c) σ (.slice a (T.getD c []).length k) (T.getD c []) := by
  obtain ⟨vs, ⟨b, h1, h2⟩, h3⟩ := h
  rw [List.length_map, h3.1] at h1
  obtain ⟨u, q1, q2⟩ := h3.2 c T[c] (List.getElem?_eq_getElem hc)
  have e : T.getD c [] = T[c] := by rw [List.getD_eq_getElem?_getD, List.getElem?_eq_getElem hc]; rfl
  rw [e]
  obtain ⟨a, k, hs⟩ := OwnC.slice encN_len q2
  have hu : u = (a, T[c].length, k) := by
    obtain ⟨u1, u2, u3⟩ := u
    unfold slV at hs
    simp only [Value.slice.injEq] at hs
    obtain ⟨rfl, rfl, rfl⟩ := hs
    rfl
  rw [hu] at q1 q2
  exact ⟨vs, b, a, k, h1, h2, h3, q1, q2⟩
end Go.Proofs.Ytdadkkmpnecpbaa
namespace Go.Am
set_option linter.unusedSimpArgs false
set_option linter.unusedVariables false
set_option linter.unnecessarySimpa false
open Go.RowKit
def d2 (ns : List Int) (q : MkP) (i : Nat) : MkD :=
  ⟨(l1F ns q.k q.n).1 + i, (l1F ns q.k q.n).2.1, drawRow ns (fun c => tabF (l1F ns q.k q.n).2.1 c) (l1F ns q.k q.n).1 i ++ List.replicate (q.k - i) 0, (List.range q.k).map fun (c : Nat) => tabF (l1F ns q.k q.n).2.1 (c : Int), (l1F ns q.k q.n).2.2, [], [], []⟩
end Go.Am
namespace Go.Proofs.Ytdadkkmpnecpbaa
set_option linter.unusedSimpArgs false
set_option linter.unusedVariables false
set_option linter.unnecessarySimpa false
open Go.Am Go.RowKit
attribute [local irreducible] aop OpsL Trip blockExit OpsD OpsK OpsR OpsQ
end Go.Proofs.Ytdadkkmpnecpbaa
namespace Go.Proofs.Ytdadkkmpnecpbaa
set_option linter.unusedSimpArgs false
set_option linter.unusedVariables false
set_option linter.unnecessarySimpa false
open Go.Am Go.RowKit
attribute [local irreducible] aop OpsL Trip blockExit OpsD OpsK OpsR OpsQ
end Go.Proofs.Ytdadkkmpnecpbaa
namespace Go.Proofs.Ytdadkkmpnecpbaa
set_option linter.unusedSimpArgs false
set_option linter.unusedVariables false
set_option linter.unnecessarySimpa false
open Go.Am Go.RowKit
attribute [local irreducible] aop OpsL Trip blockExit OpsD OpsK OpsR OpsQ
end Go.Proofs.Ytdadkkmpnecpbaa
namespace Go.Proofs.Ytdadkkmpnecpbaa
set_option linter.unusedSimpArgs false
set_option linter.unusedVariables false
set_option linter.unnecessarySimpa false
open Go.Am Go.RowKit
attribute [local irreducible] aop OpsL Trip blockExit OpsD OpsK OpsR OpsQ
def LitAt (el : TypeId) (σ : CH) (v : Value) (s : SV) : Prop := ∃ b, v = .slice (some ⟨b, 0, none⟩) 1 1 ∧ ObC .tmp σ b (.cells [slV s] 1 none false (some el))
structure J9 (σ0 : CH) (X : MkX) (q : MkP) (D : MkD) (V : MoV) (p : Nat) (lin llow : List Int) (lret : List (List Int)) (si sl sr : SV) (l : List Nat) (tm : Nat → Value) (σ : CH) : Prop where
  old : OldC σ0 σ
  a : ObC .self σ X.A (mObj X.pl X.cl ⟨V.o, V.e, V.f, if 16 ∈ l then V.i else tm 205, if 18 ∈ l then V.l else tm 210, if 20 ∈ l then V.r else tm 215⟩)
  b : ObC .next σ X.B (nextO X.nv D.cnt)
  r : ∃ cs, cs.length = 8 ∧ ObC .tmp σ X.a4 (.cells cs 0 none false (some 29))
  n : IntsC .old σ X.nv X.ns
  of : PlainC 3 .of σ V.o (D.L.map (.int .i64 ·))
  en : PlainC 3 .entry σ V.e (D.E.map (.int .i64 ·))
  tb : TabC σ X.tv D.T
  fi : OwnC encBo 4 .final σ V.f D.f
  t1 : T1 tm X q
  t13 : tm 13 = .int .i64 p
  t202 : tm 202 = V.i
  t203 : tm 203 = slV si
  t207 : tm 207 = V.l
  t208 : tm 208 = slV sl
  t212 : tm 212 = V.r
  t213 : tm 213 = slV sr
  t216 : 15 ∉ l → tm 216 = .pointer (some ⟨X.A, 0 + 5, none⟩)
  t217 : 17 ∉ l → tm 217 = .pointer (some ⟨X.A, 0 + 6, none⟩)
  t218 : 19 ∉ l → tm 218 = .pointer (some ⟨X.A, 0 + 7, none⟩)
  cA : 4 ∈ l → 16 ∈ l
  cB : 14 ∈ l → 16 ∈ l
  cC : 9 ∈ l → 18 ∈ l
  cD : 16 ∈ l → 18 ∈ l
  cE : 18 ∈ l → 20 ∈ l
  rin : RowI (.inn1 p) σ (slV si) lin
  rlow : RowI (.low1 p) σ (slV sl) llow
  rret : Row2 (.ret2 p) (.ret1 p) σ (slV sr) lret
  i0 : 4 ∈ l → Row2 .inn1 .inn σ V.i D.I
  i1 : 4 ∉ l → Row2 .inn1 .inn σ (tm 205) (D.I ++ [lin])
  l0 : 9 ∈ l → Row2 .low1 .low σ V.l D.W
  l1 : 9 ∉ l → Row2 .low1 .low σ (tm 210) (D.W ++ [llow])
  r0 : 14 ∈ l → Row3 σ V.r D.R
  r1 : 14 ∉ l → Row3 σ (tm 215) (D.R ++ [lret])
  b3 : 3 ∉ l → LitAt 22 σ (tm 204) si
  b8 : 8 ∉ l → LitAt 22 σ (tm 209) sl
  b13 : 13 ∉ l → LitAt 26 σ (tm 214) sr
end Go.Proofs.Ytdadkkmpnecpbaa
namespace Go.Am
set_option linter.unusedSimpArgs false
set_option linter.unusedVariables false
set_option linter.unnecessarySimpa false
open Go.RowKit
def d3 (ns : List Int) (q : MkP) (p : Nat) : MkD :=
  ⟨cntF (l1F ns q.k q.n).2.1 q.pl q.cl q.n ((l1F ns q.k q.n).1 + q.k) p, (l1F ns q.k q.n).2.1, drawRow ns (fun c => tabF (l1F ns q.k q.n).2.1 c) (l1F ns q.k q.n).1 q.k, (List.range q.k).map fun (c : Nat) => tabF (l1F ns q.k q.n).2.1 (c : Int), (l1F ns q.k q.n).2.2,
    (List.range p).map (innD ns q (l1F ns q.k q.n).2.1 ((l1F ns q.k q.n).1 + q.k)), (List.range p).map (lowD ns q (l1F ns q.k q.n).2.1 ((l1F ns q.k q.n).1 + q.k)), (List.range p).map (retD ns q (l1F ns q.k q.n).2.1 ((l1F ns q.k q.n).1 + q.k))⟩
end Go.Am
namespace Go.Proofs.Ytdadkkmpnecpbaa
set_option linter.unusedSimpArgs false
set_option linter.unusedVariables false
set_option linter.unnecessarySimpa false
open Go.Am Go.RowKit
attribute [local irreducible] aop OpsL Trip blockExit OpsD OpsK OpsR OpsQ
end Go.Proofs.Ytdadkkmpnecpbaa
namespace Go.Am
set_option linter.unusedSimpArgs false
set_option linter.unusedVariables false
set_option linter.unnecessarySimpa false
open Go.RowKit
def nilV : MoV := ⟨.slice none 0 0, .slice none 0 0, .slice none 0 0, .slice none 0 0, .slice none 0 0, .slice none 0 0⟩
theorem rep_one (k : Nat) (z : Value) : rep k [z] = List.replicate k z := by
  unfold rep
  induction k with
  | zero => rfl
  | succ n ih => rw [List.replicate_succ, List.flatten_cons, ih, List.replicate_succ]; rfl
theorem aMakeSlice_one {P : Program} {nx : Nat} {t el : TypeId} {m bytes : Nat} {z : Value} (hu : P.underlying t = some (.slice el)) (hs : szOf P el = some 1) (hb : bytesOfT P el = some bytes) (hz : zeroOf P el = some [z]) (hm : m ≤ 100000) (hbl : bytes ≤ 1000) :
    aMakeSlice P nx t (.int .i64 m) (.int .i64 m) = some (.slice (some ⟨nx, 0, none⟩) m m, .new (.cells (List.replicate m z) 1 none false (some el))) := by
  have h1 : bytes * m ≤ 1000 * 100000 := Nat.mul_le_mul hbl hm
  unfold aMakeSlice
  simp only [hu, hs, hb, hz, Int.toNat_natCast, rep_one]
  rw [if_pos ⟨by omega, by omega, by omega, by omega, rfl⟩]
section
attribute [local irreducible] aop OpsL Trip blockExit OpsD OpsK OpsR OpsQ
variable {P : Program} {W0 : World} {σ : CH} {n : Nat} {ops : Array Oper} {l : List Oper} {tm : Nat → Value} {QQ : ASt → Prop} {d : Tmp} {type : TypeId} {pos : String} {after : Array Edge}
theorem OpsL.setAllC {c : Co} {b e k : Nat} {zs vs : List Value} {tg : Option Nat} {q : Option TypeId} {t : TypeId} {x y : Operand} (ho : ObC c σ b (.cells zs e tg false q)) (hs : szOf P t = some k) (hk : vs.length = k) (hl : vs.length = zs.length) (h1 : vs.all (·.oneCell') = true)
    (hx : ASt.ev ⟨tm, n, σ.H, σ.nx⟩ x = some (.pointer (some ⟨b, 0, tg⟩))) (hy : ASt.ev ⟨tm, n, σ.H, σ.nx⟩ y = some (.agg vs.toArray))
    (h : ∀ τ, ObC c τ b (.cells vs e tg false q) → Chg [c] σ τ → OpsL P W0 ops l ⟨tm, n, τ.H, τ.nx⟩ QQ) :
    OpsL P W0 ops (⟨none, .store t x y, type, pos, after, none⟩ :: l) ⟨tm, n, σ.H, σ.nx⟩ QQ := by
  refine OpsL.upd (aop_store (a := ⟨b, 0, tg⟩) (k := k) (u := .agg vs.toArray) hx hy hs (by rw [← hk]; rfl) (o := .cells vs e tg false q) (setc_allN (vs := vs) ho.2.2 hl h1)) ?_
  refine h ⟨σ.nx, σ.C, σ.H.put b (.cells vs e tg false q)⟩ ⟨ho.1, ho.2.1, Heap.put_eq⟩ ⟨Nat.le_refl _, fun i hi => ⟨rfl, fun hn => Heap.put_ne fun e => ?_⟩⟩
  subst e
  rw [ho.2.1] at hn
  exact hn (List.mem_singleton.2 rfl)
end
end Go.Am
namespace Go.Proofs.Ytdadkkmpnecpbaa
set_option linter.unusedSimpArgs false
set_option linter.unusedVariables false
set_option linter.unnecessarySimpa false
open Go.Am Go.RowKit
attribute [local irreducible] aop OpsL Trip blockExit OpsD OpsK OpsR OpsQ
structure J5 (σ0 : CH) (X : MkX) (q : MkP) (l : List Nat) (tm : Nat → Value) (σ : CH) : Prop where
  old : OldC σ0 σ
  a : ObC .self σ X.A (mObj X.pl X.cl ⟨if 5 ∈ l then .slice none 0 0 else tm 43, if 7 ∈ l then .slice none 0 0 else tm 45, .slice none 0 0, .slice none 0 0, .slice none 0 0, .slice none 0 0⟩)
  b : ObC .next σ X.B (nextO X.nv 0)
  r : ∃ cs, cs.length = 8 ∧ ObC .tmp σ X.a4 (.cells cs 0 none false (some 29))
  n : IntsC .old σ X.nv X.ns
  t4 : tm 4 = .pointer (some ⟨X.a4, 0, none⟩)
  t5 : tm 5 = .pointer (some ⟨X.A, 0, none⟩)
  t6 : tm 6 = .int .i64 q.k
  t7 : tm 7 = .int .i64 q.n
  t8 : tm 8 = .pointer (some ⟨X.B, 0, none⟩)
  t42 : tm 42 = .int .i64 q.n
  t44 : tm 44 = .int .i64 q.k
  t46 : 4 ∉ l → tm 46 = .pointer (some ⟨X.A, 0 + 2, none⟩)
  t47 : 6 ∉ l → tm 47 = .pointer (some ⟨X.A, 0 + 3, none⟩)
  of : 1 ∉ l → PlainC 3 .of σ (tm 43) ((List.replicate q.n (0 : Int)).map (.int .i64 ·))
  en : 3 ∉ l → PlainC 3 .entry σ (tm 45) ((List.replicate q.k (0 : Int)).map (.int .i64 ·))
  cA : 5 ∈ l → 7 ∈ l
end Go.Proofs.Ytdadkkmpnecpbaa

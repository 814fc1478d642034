import Derived.Test.YtjgbcpagfghfnaaQYM17
import Derived.Test.YtjgbcpagfghfnaaQYM15
import Derived.Test.YtjgbcpagfghfnaaQYM18
set_option linter.unusedVariables false
set_option linter.unusedSimpArgs false
set_option linter.unnecessarySimpa false
namespace Go.Am
open Go.RowKit
inductive Co where
 | old | self | next | of | entry | table | final | inn | low | ret | tmp
 | tab (c : Nat) | inn1 (p : Nat) | low1 (p : Nat) | ret1 (p : Nat) | ret2 (p j : Nat)
structure CH where
 nx : Nat
 C : Nat → Co
 H : Heap
def Chg (S : List Co) (a b : CH) : Prop := a.nx ≤ b.nx ∧ ∀ i, i < a.nx → b.C i = a.C i ∧ (a.C i ∉ S → b.H i = a.H i)
theorem Chg.refl {S : List Co} {a : CH} : Chg S a a := ⟨Nat.le_refl _, fun _ _ => ⟨rfl, fun _ => rfl⟩⟩
theorem Chg.mono {S T : List Co} {a b : CH} (h : Chg S a b) (hs : ∀ c, c ∈ S → c ∈ T) : Chg T a b := ⟨h.1, fun i hi => ⟨(h.2 i hi).1, fun hn => (h.2 i hi).2 fun q => hn (hs _ q)⟩⟩
theorem Chg.trans {S : List Co} {a b c : CH} (h : Chg S a b) (k : Chg S b c) : Chg S a c :=
 ⟨Nat.le_trans h.1 k.1, fun i hi => by
  have h1 := h.2 i hi;have h2 := k.2 i (Nat.lt_of_lt_of_le hi h.1);exact ⟨h2.1.trans h1.1, fun hn => (h2.2 (by rw [h1.1]; exact hn)).trans (h1.2 hn)⟩⟩
theorem Chg.trans2 {S T U : List Co} {a b c : CH} (h : Chg S a b) (k : Chg T b c) (h1 : ∀ c, c ∈ S → c ∈ U) (h2 : ∀ c, c ∈ T → c ∈ U) : Chg U a c := (h.mono h1).trans (k.mono h2)
theorem Chg.same {S : List Co} {a b : CH} (h : Chg S a b) {c : Co} (hc : c ∉ S) {i : Nat} (hi : i < a.nx) (hC : a.C i = c) : b.H i = a.H i := (h.2 i hi).2 (by rw [hC]; exact hc)
theorem Chg.hue {S : List Co} {a b : CH} (h : Chg S a b) {i : Nat} (hi : i < a.nx) : b.C i = a.C i := (h.2 i hi).1
theorem z9c {H H' : Heap} {a : Addr} {v : Value} (h : H' a.block = H a.block) (hc : zf H a v) : zf H' a v := by
 unfold zf z1f at *;rw [h];exact hc
theorem z81 {H H' : Heap} {ob : Option (Nat × Nat)} {el : TypeId} {sz k : Nat} {v : Value} {cs : List Value} (hs : ∀ b t, ob = some (b, t) → H' b = H b) (h : OwnRow H ob el sz v cs k) : OwnRow H' ob el sz v cs k := by
 cases ob with
 | none => exact h
 | some bt =>
  obtain ⟨b, t⟩ := bt;obtain ⟨h1, h2, rest, h3⟩ := h;exact ⟨h1, h2, rest, by rw [hs b t rfl]; exact h3⟩
def ObC (c : Co) (σ : CH) (b : Nat) (o : AObj) : Prop := b < σ.nx ∧ σ.C b = c ∧ σ.H b = some o
theorem ObC.keep {S : List Co} {σ τ : CH} {c : Co} {b : Nat} {o : AObj} (h : Chg S σ τ) (hc : c ∉ S) (ho : ObC c σ b o) : ObC c τ b o :=
 ⟨Nat.lt_of_lt_of_le ho.1 h.1, (h.hue ho.1).trans ho.2.1, (h.same hc ho.1 ho.2.1).trans ho.2.2⟩
def IntsC (c : Co) (σ : CH) (v : Value) (l : List Int) : Prop :=
 (∃ k, v = .slice none 0 k ∧ l = []) ∨ ∃ a k, v = .slice (some a) l.length k ∧ ∀ (i : Nat) (h : i < l.length), (a.block < σ.nx ∧ σ.C a.block = c) ∧ zf σ.H ⟨a.block, a.off + i, a.spot⟩ (.int .i64 l[i])
theorem IntsC.at {c : Co} {σ : CH} {v : Value} {l : List Int} (h : IntsC c σ v l) : IntsAt σ.H v l := by
 rcases h with h | ⟨a, k, h1, h2⟩
 ·exact .inl h
 ·exact .inr ⟨a, k, h1, fun i hi => (h2 i hi).2⟩
theorem IntsC.keep {S : List Co} {σ τ : CH} {c : Co} {v : Value} {l : List Int} (h : Chg S σ τ) (hc : c ∉ S) (hl : IntsC c σ v l) : IntsC c τ v l := by
 rcases hl with hl | ⟨a, k, h1, h2⟩
 ·exact .inl hl
 ·refine .inr ⟨a, k, h1, fun i hi => ?_⟩;obtain ⟨⟨q1, q2⟩, q3⟩ := h2 i hi;exact ⟨⟨Nat.lt_of_lt_of_le q1 h.1, (h.hue q1).trans q2⟩, z9c (h.same hc q1 q2) q3⟩
theorem IntsC.of {nx : Nat} {H : Heap} {v : Value} {l : List Int} (h : IntsAt H v l) (hok : ∀ id o, H id = some o → id < nx) : IntsC .old ⟨nx, fun _ => .old, H⟩ v l := by
 rcases h with h | ⟨a, k, h1, h2⟩
 ·exact .inl h
 ·refine .inr ⟨a, k, h1, fun i hi => ⟨⟨?_, rfl⟩, h2 i hi⟩⟩;obtain ⟨o, ho⟩ := z5c (h2 i hi);exact hok _ _ ho
def z3v (b : Bool) : List Value := [.bool b]
theorem z0P (b : Bool) : (z3v b).length = 1 := rfl
theorem z4d (b : Bool) : (z3v b).all (·.oneCell') = true := rfl
abbrev SV := Option Addr × Nat × Nat
def slV (s : SV) : Value := .slice s.1 s.2.1 s.2.2
def z8E (s : SV) : List Value := [slV s]
theorem z0b (s : SV) : (z8E s).length = 1 := rfl
theorem z1n (s : SV) : (z8E s).all (·.oneCell') = true := rfl
def OwnC {α : Type} (enc : α → List Value) (el : TypeId) (c : Co) (σ : CH) (v : Value) (l : List α) : Prop := ∃ ob, OwnOf enc 1 el σ.H ob v l ∧ ∀ b t, ob = some (b, t) → b < σ.nx ∧ σ.C b = c
section
variable {α : Type} {enc : α → List Value} {el : TypeId} {c : Co} {S : List Co} {σ τ : CH} {v : Value} {l : List α}
theorem OwnC.keep (h : Chg S σ τ) (hc : c ∉ S) (ho : OwnC enc el c σ v l) : OwnC enc el c τ v l := by
 obtain ⟨ob, h1, h2⟩ := ho;refine ⟨ob, z81 (fun b t e => ?_) h1, fun b t e => ?_⟩
 ·obtain ⟨q1, q2⟩ := h2 b t e;exact h.same hc q1 q2
 ·obtain ⟨q1, q2⟩ := h2 b t e;exact ⟨Nat.lt_of_lt_of_le q1 h.1, (h.hue q1).trans q2⟩
theorem OwnC.nil : OwnC enc el c σ (.slice none 0 0) ([] : List α) := ⟨none, ⟨rfl, rfl, rfl⟩, fun _ _ h => by cases h⟩
theorem OwnC.at (hk : ∀ x, (enc x).length = 1) (ho : OwnC enc el c σ v l) : RowsAt enc 1 σ.H v l := by
 obtain ⟨ob, h1, _⟩ := ho;exact h1.at hk
end
theorem OwnC.ints {el : TypeId} {c : Co} {σ : CH} {v : Value} {l : List Int} (h : OwnC z1L el c σ v l) : IntsAt σ.H v l := z7B (h.at zR)
theorem zbs {H : Heap} {v : Value} {l : List Bool} (h : RowsAt z3v 1 H v l) : BoolsAt H v l := by
 rcases h with h | ⟨a, c, rfl, hc⟩
 ·exact .inl h
 ·exact .inr ⟨a, c, rfl, fun i hi => ⟨_, by have := hc i hi; simpa [zf, z3v] using this, rfl⟩⟩
theorem OwnC.bools {el : TypeId} {c : Co} {σ : CH} {v : Value} {l : List Bool} (h : OwnC z3v el c σ v l) : BoolsAt σ.H v l := zbs (h.at z0P)
def AllC {α : Type} (R : Nat → CH → Value → α → Prop) (σ : CH) (vs : List SV) (l : List α) : Prop := vs.length = l.length ∧ ∀ i x, l[i]? = some x → ∃ u, vs[i]? = some u ∧ R i σ (slV u) x
def OwnLC {α : Type} (R : Nat → CH → Value → α → Prop) (el : TypeId) (c : Co) (σ : CH) (v : Value) (l : List α) : Prop := ∃ vs, OwnC z8E el c σ v vs ∧ AllC R σ vs l
section
variable {α : Type} {R : Nat → CH → Value → α → Prop} {el : TypeId} {c : Co} {S : List Co} {σ τ : CH} {v : Value} {l : List α} {vs : List SV}
theorem AllC.nil : AllC R σ [] ([] : List α) := ⟨rfl, fun i x h => by simp at h⟩
theorem AllC.keep (hR : ∀ i u x, i < l.length → R i σ u x → R i τ u x) (h : AllC R σ vs l) : AllC R τ vs l :=
 ⟨h.1, fun i x hx => by obtain ⟨u, h1, h2⟩ := h.2 i x hx; exact ⟨u, h1, hR _ _ _ (List.getElem?_eq_some_iff.1 hx).1 h2⟩⟩
theorem AllC.push {u : SV} {x : α} (h : AllC R σ vs l) (hx : R l.length σ (slV u) x) : AllC R σ (vs ++ [u]) (l ++ [x]) := by
 refine ⟨by simp [h.1], fun i y hy => ?_⟩;by_cases hi : i < l.length
 ·rw [List.getElem?_append_left hi] at hy;obtain ⟨w, h1, h2⟩ := h.2 i y hy;exact ⟨w, by rw [List.getElem?_append_left (by rw [h.1]; exact hi)]; exact h1, h2⟩
 ·rw [List.getElem?_append_right (by omega)] at hy
  have : i - l.length = 0 := by
   by_cases e : i - l.length = 0
   ·exact e
   ·rw [List.getElem?_eq_none (by simp; omega)] at hy; cases hy
  rw [this] at hy;cases hy;have hi2 : i = l.length := by omega
  subst hi2;have hl := h.1;exact ⟨u, by rw [List.getElem?_append_right (by omega), hl]; simp, hx⟩
theorem OwnLC.nil : OwnLC R el c σ (.slice none 0 0) ([] : List α) := ⟨[], .nil, .nil⟩
theorem OwnLC.keep (h : Chg S σ τ) (hc : c ∉ S) (hR : ∀ i u x, i < l.length → R i σ u x → R i τ u x) (ho : OwnLC R el c σ v l) : OwnLC R el c τ v l := by
 obtain ⟨vs, h1, h2⟩ := ho;exact ⟨vs, h1.keep h hc, h2.keep hR⟩
theorem OwnLC.at {R' : Heap → Value → α → Prop} (hR : ∀ i u x, R i σ u x → R' σ.H u x) (ho : OwnLC R el c σ v l) : ListAt R' σ.H v l := by
 obtain ⟨vs, h1, h2⟩ := ho;rcases h1.at z0b with ⟨k, rfl, rfl⟩ | ⟨a, k, rfl, h3⟩
 ·exact .inl ⟨k, rfl, List.eq_nil_of_length_eq_zero h2.1.symm⟩
 ·refine .inr ⟨a, k, by rw [h2.1], fun i hi => ?_⟩;obtain ⟨u, q1, q2⟩ := h2.2 i l[i] (List.getElem?_eq_getElem hi);obtain ⟨q3, q4⟩ := List.getElem?_eq_some_iff.1 q1;have := h3 i q3;rw [q4] at this;exact ⟨slV u, by simpa [zf, z8E] using this, hR _ _ _ q2⟩
end
def PlainC (el : TypeId) (c : Co) (σ : CH) (v : Value) (cs : List Value) : Prop := ∃ b, v = .slice (some ⟨b, 0, none⟩) cs.length cs.length ∧ ObC c σ b (.cells cs 1 none false (some el))
theorem PlainC.keep {el : TypeId} {S : List Co} {σ τ : CH} {c : Co} {v : Value} {cs : List Value} (h : Chg S σ τ) (hc : c ∉ S) (ho : PlainC el c σ v cs) : PlainC el c τ v cs := by
 obtain ⟨b, h1, h2⟩ := ho;exact ⟨b, h1, h2.keep h hc⟩
theorem ObC.cell {c : Co} {σ : CH} {b e : Nat} {cs : List Value} {tg : Option Nat} {ro : Bool} {q : Option TypeId} {k : Nat} {v : Value} (h : ObC c σ b (.cells cs e tg ro q)) (hk : cs[k]? = some v) : zf σ.H ⟨b, k, tg⟩ v := z0c h.2.2 hk
theorem PlainC.ints {el : TypeId} {c : Co} {σ : CH} {v : Value} {l : List Int} (h : PlainC el c σ v (l.map (.int .i64 ·))) : IntsAt σ.H v l := by
 obtain ⟨b, h1, h2⟩ := h;rw [List.length_map] at h1;refine .inr ⟨_, _, h1, fun i hi => ?_⟩;rw [Nat.zero_add];exact h2.cell (by rw [List.getElem?_map, List.getElem?_eq_getElem hi]; rfl)
attribute [local irreducible] aop OpsL Trip zt z1X z1E OpsR OpsQ
section
variable {P : Program} {W0 : World} {σ : CH} {n : Nat} {ops : Array Oper} {l : List Oper} {tm : Nat → Value} {QQ : ASt → Prop} {d : Tmp} {type : TypeId} {pos : String} {after : Array Edge}
theorem z0i {α : Type} {enc : α → List Value} {z : α} {a : Value} {el st : TypeId} {x : Operand} (he : enc z = [a]) (hx : ASt.ev ⟨tm, n, σ.H, σ.nx⟩ x = some a)
  (hb : z2q P σ.nx st 1 [(0, a)] = some (.slice (some ⟨σ.nx, 0, none⟩) 1 1, .new (.cells [a] 1 none false (some el)))) (hd : d < n)
  (h : ∀ τ, Chg [] σ τ → RowsAt enc 1 τ.H (.slice (some ⟨σ.nx, 0, none⟩) 1 1) [z] → OpsL P W0 ops l ⟨zb tm (some d) (.slice (some ⟨σ.nx, 0, none⟩) 1 1), n, τ.H, τ.nx⟩ QQ) :
  OpsL P W0 ops (⟨some d, .buildSlice st 1 #[(0, x)], type, pos, after, none⟩ :: l) ⟨tm, n, σ.H, σ.nx⟩ QQ := by
 refine OpsL.new hd (zE (l := [(0, a)]) (by simp [zQ, hx]) hb) ?_;refine h ⟨σ.nx + 1, fun i => if i < σ.nx then σ.C i else .tmp, σ.H.put σ.nx (.cells [a] 1 none false (some el))⟩ ⟨Nat.le_succ _, fun i hi => ⟨if_pos hi, fun _ => zj (by omega)⟩⟩ (.inr ⟨⟨σ.nx, 0, none⟩, 1, rfl, fun i hi => ?_⟩);have hi0 : i = 0 := by simpa using hi
 subst hi0;show z1f (σ.H.put σ.nx _) ⟨σ.nx, 0 + 0 * 1, none⟩ 1 = some (enc z);rw [he];exact ze2 (by show 0 + 0 * 1 + 1 ≤ 1; decide)
theorem zT {α : Type} {enc : α → List Value} {bytes : Nat} {z : List Value} {el st xt : TypeId} {c : Co} {v u : Value} {zs us : List α} {x y : Operand} (hk : ∀ x, (enc x).length = 1) (h1 : ∀ x, (enc x).all (·.oneCell') = true) (h : OwnC enc el c σ v zs) (hu : RowsAt enc 1 σ.H u us)
  (hst : P.underlying st = some (.slice el)) (hxt : P.underlying xt = some (.slice el)) (hsz : z1W P el = some 1) (hby : z0u P el = some bytes) (hz : z0Y P el = some z) (hzl : z.length = 1) (hle : zs.length + us.length ≤ 1000000) (hbl : bytes ≤ 1000)
  (hx : ASt.ev ⟨tm, n, σ.H, σ.nx⟩ x = some v) (hy : ASt.ev ⟨tm, n, σ.H, σ.nx⟩ y = some u) (hd : d < n)
  (hc : ∀ v' τ, OwnC enc el c τ v' (zs ++ us) → Chg [c] σ τ → OpsL P W0 ops l ⟨zb tm (some d) v', n, τ.H, τ.nx⟩ QQ) :
  OpsL P W0 ops (⟨some d, .call ⟨.builtin .append, #[x, y], #[st, xt]⟩, type, pos, after, none⟩ :: l) ⟨tm, n, σ.H, σ.nx⟩ QQ := by
 obtain ⟨ob, ho, hob⟩ := h;refine z62 hk h1 (by decide) hd ho hu hx hy (fun b t e => (hob b t e).1) hst hxt hsz hby hz hzl hle hbl ?_;intro v' nx' H' ob' hA;refine hc v' ⟨nx', fun i => if i < σ.nx then σ.C i else c, H'⟩ ⟨ob', hA.own, fun b t e => ?_⟩ ⟨hA.le, fun i hi => ⟨if_pos hi, fun hn => hA.same i hi fun b t e hib => ?_⟩⟩
 ·obtain ⟨q1, q2⟩ := hA.blk b t e;refine ⟨q1, ?_⟩;rcases q2 with rfl | ⟨t', e'⟩
  ·exact if_neg (Nat.lt_irrefl _)
  ·obtain ⟨q3, q4⟩ := hob _ _ e';show (if b < σ.nx then σ.C b else c) = c;rw [if_pos q3, q4]
 ·subst hib;rw [(hob _ _ e).2] at hn;exact hn (List.mem_singleton.2 rfl)
theorem zP {c : Co} {b e k : Nat} {cs cs' : List Value} {tg : Option Nat} {q : Option TypeId} {t : TypeId} {x y : Operand} {v : Value} {p : Addr} (ho : ObC c σ b (.cells cs e tg false q)) (hk : k < cs.length) (hcs : cs.set k v = cs')
  (hz : z1W P t = some 1) (hv : v.cells = #[v]) (h1 : v.oneCell' = true)
  (hx : ASt.ev ⟨tm, n, σ.H, σ.nx⟩ x = some (.pointer (some p))) (hy : ASt.ev ⟨tm, n, σ.H, σ.nx⟩ y = some v) (hp : p = ⟨b, k, tg⟩)
  (h : ∀ τ, ObC c τ b (.cells cs' e tg false q) → Chg [c] σ τ → τ.nx = σ.nx → OpsL P W0 ops l ⟨tm, n, τ.H, τ.nx⟩ QQ) :
  OpsL P W0 ops (⟨none, .store t x y, type, pos, after, none⟩ :: l) ⟨tm, n, σ.H, σ.nx⟩ QQ := by
 subst hp;refine OpsL.storeAt k hx hy hz hv h1 ho.2.2 rfl hk hcs ?_;refine h ⟨σ.nx, σ.C, σ.H.put b (.cells cs' e tg false q)⟩ ⟨ho.1, ho.2.1, zu⟩ ⟨Nat.le_refl _, fun i hi => ⟨rfl, fun hn => zj fun e => ?_⟩⟩ rfl;subst e;rw [ho.2.1] at hn;exact hn (List.mem_singleton.2 rfl)
theorem zo (c : Co) {o : AObj} {op : Op} {v : Value} (hop : aop P σ.H σ.nx (ASt.ev ⟨tm, n, σ.H, σ.nx⟩) ⟨some d, op, type, pos, after, none⟩ = some (v, .new o)) (hd : d < n)
  (h : ∀ τ, ObC c τ σ.nx o → Chg [] σ τ → OpsL P W0 ops l ⟨zb tm (some d) v, n, τ.H, τ.nx⟩ QQ) :
  OpsL P W0 ops (⟨some d, op, type, pos, after, none⟩ :: l) ⟨tm, n, σ.H, σ.nx⟩ QQ := by
 refine OpsL.new hd hop ?_;exact h ⟨σ.nx + 1, fun i => if i < σ.nx then σ.C i else c, σ.H.put σ.nx o⟩ ⟨Nat.lt_succ_self _, if_neg (Nat.lt_irrefl _), zu⟩ ⟨Nat.le_succ _, fun i hi => ⟨if_pos hi, fun _ => zj (by omega)⟩⟩
end
end Go.Am
namespace Go.Am
open Go.RowKit
def z6f (ns : List Int) (j : Nat) (m : Int) : Int := if (ns.length : Int) < j then (j : Int) % m else (ns.getD (j - 1) 0) % m
theorem z4R (ns : List Int) (j : Nat) {m : Int} (h : 0 < m) : 0 ≤ z6f ns j m ∧ z6f ns j m < m := by
 unfold z6f;split
 ·exact ⟨Int.emod_nonneg _ (by omega), Int.emod_lt_of_pos _ h⟩
 ·exact ⟨Int.emod_nonneg _ (by omega), Int.emod_lt_of_pos _ h⟩
theorem zdC (a n : Int) (h0 : 0 < n) (h : a.tmod n < 0) : a.tmod n + n = a % n := by
 have e : a % n = _ := @Int.emod_eq_tmod a n;have h3 := Int.emod_nonneg a (by omega : n ≠ 0);split at e <;> omega
theorem zdD (a n : Int) (h0 : 0 < n) (h : ¬ a.tmod n < 0) : a.tmod n = a % n := by
 have h1 := Int.tmod_lt_of_pos a h0;have hd := Int.mul_tdiv_add_tmod a n;have : a % n = (n * a.tdiv n + a.tmod n) % n := by rw [hd]
 rw [this, Int.mul_add_emod_self_left, Int.emod_eq_of_lt (by omega) h1]
section
variable {P : Program} {H : Heap} {nx : Nat} {ev : Operand → Option Value} {dst : Option Tmp} {type : TypeId} {pos : String} {after : Array Edge} {guard : Option (Nat × Bool)}
theorem zba {t u : TypeId} {x y : Operand} {a b : Int} (hx : ev x = some (.int .i64 a)) (hy : ev y = some (.int .i64 b)) (h0 : 0 ≤ a) (hb : 0 < b) :
  aop P H nx ev ⟨dst, .binOp .rem t x y u, type, pos, after, guard⟩ = some (.int .i64 (a % b), .none) := by
 have e : a.tmod b = a % b := Int.tmod_eq_emod_of_nonneg h0;have hb0 : ¬ b = 0 := by omega
 simp [aop, hx, hy, z7a, z1h, hb0, e]
theorem z0q {x : Operand} {a : Addr} (hx : ev x = some (.pointer (some a))) : aop P H nx ev ⟨dst, .nilCheck x, type, pos, after, guard⟩ = some (.pointer (some a), .none) := by simp [aop, hx]
theorem z6p {t u : TypeId} {x y : Operand} {a b : Int} (hx : ev x = some (.int .i64 a)) (hy : ev y = some (.int .i64 b)) (hb : 0 < b) (h0 : -9223372036854775808 ≤ a) (h1 : a ≤ 9223372036854775807) :
  aop P H nx ev ⟨dst, .binOp .quo t x y u, type, pos, after, guard⟩ = some (.int .i64 (a.tdiv b), .none) := by
 have hb0 : ¬ b = 0 := by omega
 have e : -9223372036854775808 ≤ a.tdiv b ∧ a.tdiv b ≤ 9223372036854775807 := by
  rcases Int.le_total 0 a with h | h
  ·have h2 := Int.tdiv_le_self (b := b) (a := a) h;have h3 := Int.tdiv_nonneg h (show 0 ≤ b by omega);omega
  ·obtain ⟨c, rfl⟩ : ∃ c : Int, a = -c := ⟨-a, by omega⟩;have hc : 0 ≤ c := by omega
   rw [Int.neg_tdiv];have h2 := Int.tdiv_le_self (b := b) (a := c) hc;have h3 := Int.tdiv_nonneg hc (show 0 ≤ b by omega);omega
 have w : IntKind.i64.wrap (a.tdiv b) = a.tdiv b := by rw [zaO]; omega
 simp [aop, hx, hy, z7a, z1h, hb0, w]
end
end Go.Am
namespace Go.Proofs.Ytjgbcpagfghfnaa
open Go.Am Go.RowKit
attribute [local irreducible] aop OpsL Trip zt z1X z1E OpsR OpsQ
theorem z1x : Am.z1G Try.prog 20 := ⟨Try.f20, Try.func20, by kernel_rfl, by kernel_rfl⟩
set_option maxRecDepth 20000 in
set_option maxHeartbeats 8000000 in
theorem z5w (W0 : World) {nx : Nat} {H : Heap} (a m : Int) (h0 : 0 < m) (h1 : m ≤ 4611686018427387904) : ACalls Try.prog W0 20 [.int .i64 a, .int .i64 m] nx H fun v nx' H' => v = .int .i64 (a % m) ∧ nx' = nx ∧ H' = H := by
 refine zg (fn := Try.f20) (c := _) Try.func20 rfl (fun tm n hn0 htm => ?_);have e0 : tm 0 = .int .i64 a := htm 0;have e1 : tm 1 = .int .i64 m := htm 1;clear htm;replace hn0 : n = 15 := hn0;have g1 := Int.tmod_lt_of_pos a h0;have g2 := Int.lt_tmod_of_pos a h0;have k1 := zdC a m h0;have k2 := zdD a m h0;refine zfp ?_;refine zw sdc (zcG evr evr (by omega)) ?_;generalize a.tmod m = z at *;by_cases hz : z < 0
 ·replace k1 := k1 hz;clear k2;refine zfp ?_;refine z0y ?_ (c := hz);refine z9O ?_
  repeat (first | (refine zc (by first | exact omv | exact z09 | exact z6e) ?_) | (refine Trip.seq ?_) | (refine zd ?_) | (refine Trip.ret ?_; (dsimp only)) | (refine OpsL.nil ?_; (change Trip _ _ _ _ _)))
  exact ⟨.inr rfl, _, zn, by rw [← k1]; rfl, rfl, rfl⟩
 ·replace k2 := k2 hz;clear k1;refine zfp ?_;refine z0z ?_ (c := hz);refine zep ?_;refine zfV ?_;exact ⟨.inr rfl, _, zn, by rw [← k2]; rfl, rfl, rfl⟩
def za1 (nv : Value) (cnt : Nat) : AObj := .cells [nv, .int .i64 cnt] 0 none false (some 52)
theorem z3k : Am.z1G Try.prog 21 := ⟨Try.f21, Try.func21, by kernel_rfl, by kernel_rfl⟩
set_option maxRecDepth 20000 in
set_option maxHeartbeats 8000000 in
theorem zfy (W0 : World) {σ : CH} {B : Nat} {nv : Value} {ns : List Int} {cnt : Nat} {m : Int} (hB : ObC .next σ B (za1 nv cnt)) (hn : IntsC .old σ nv ns) (h0 : 0 < m) (h1 : m ≤ 1000000) (hc : cnt ≤ 1000000) :
  ACalls Try.prog W0 21 [.pointer (some ⟨B, 0, none⟩), .int .i64 m] σ.nx σ.H fun v nx' H' => v = .int .i64 (z6f ns (cnt + 1) m) ∧ ∃ τ : CH, nx' = τ.nx ∧ H' = τ.H ∧ Chg [.next] σ τ ∧ ObC .next τ B (za1 nv (cnt + 1)) := by
 refine zg (fn := Try.f21) (c := _) Try.func21 rfl (fun tm n hn0 htm => ?_);have e0 : tm 0 = .pointer (some ⟨B, 0, none⟩) := htm 0;have e1 : tm 1 = .int .i64 m := htm 1;clear htm;replace hn0 : n = 41 := hn0;obtain ⟨na, nc, rfl⟩ := hn.at.slice;have g1 : zf σ.H ⟨B, 1, none⟩ (.int .i64 cnt) := hB.cell rfl
 repeat (first | (refine zc (by first | exact omv | exact z09 | exact z6e | exact ofa | exact old | exact z0q evr) ?_) | (refine Trip.seq ?_) | (refine zd ?_) | (refine OpsL.nil ?_; (change Trip _ _ _ _ _)))
 refine zP (k := 1) (v := .int .i64 (cnt + 1 : Nat)) hB (by simp) rfl xrf rfl rfl evr evr rfl ?_;intro τ hB' hτ hnx;clear g1;have g0 : zf τ.H ⟨B, 0, none⟩ (.slice na ns.length nc) := hB'.cell rfl;have g1 : zf τ.H ⟨B, 1, none⟩ (.int .i64 (cnt + 1 : Nat)) := hB'.cell rfl;have hn' := (hn.keep hτ (by simp)).at
 (dsimp only)
 repeat (first | (refine Trip.seq ?_) | (refine OpsL.nil ?_; (change Trip _ _ _ _ _)))
 refine Trip.mono (Q := fun e st => e = .normal ∧ ∃ tm' : Nat → Value, st = ⟨tm', n, τ.H, τ.nx⟩ ∧ tm' 0 = .pointer (some ⟨B, 0, none⟩) ∧ tm' 1 = .int .i64 m ∧ tm' 21 = .bool (decide ((ns.length : Int) < (cnt + 1 : Nat)))) ?_ ?_
 ·refine z04 [] (K := fun _ _ => True) zU krf krf [0, 1, 2, 3, 4, 5, 6, 7, 8, 9] krf trivial ?_;refine z4G ?_;refine zg1 ?_;refine zbW ?_;refine zbi ?_;refine z4G ?_;refine zg1 ?_;refine zbW ?_;refine zbi ?_;refine zem ?_;refine zg1 ?_
  repeat (first | (refine zc (by exact zgZ) ?_) | (refine OpsL.nil ?_; (skip)))
  refine OpsR.nil ?_;exact ⟨rfl, _, rfl, stp, stp, stp⟩
 clear e0 e1;rintro e st ⟨rfl, tm', rfl, e0, e1, e21⟩
 (change Trip _ _ _ _ _)
 by_cases hz : (ns.length : Int) < (cnt + 1 : Nat)
 ·rw [decide_eq_true hz] at e21
  repeat fail
  refine z07 ?_
  repeat (first | (refine zc (by first | exact omv | exact ofa | exact old | exact z0q evr) ?_) | (refine Trip.seq ?_) | (refine zd ?_))
  refine zw sdc (zba evr evr (by omega) (by omega)) ?_;refine zeP ?_;exact ⟨.inr rfl, _, zn, by unfold z6f; rw [if_pos hz]; rfl, τ, rfl, rfl, hτ, hB'⟩
 ·rw [decide_eq_false hz] at e21;have hj : (((cnt + 1 : Nat) : Int) - 1).toNat = cnt := by omega
  obtain ⟨p, rfl, hc⟩ := hn'.atI (j := ((cnt + 1 : Nat) : Int) - 1) (by omega) (by omega);rw [hj] at hc
  repeat fail
  refine zdo ?_;refine z04 [12] (K := fun _ _ => True) zU krf krf [0, 1, 2, 3, 4, 5, 6, 7, 8, 9, 10, 11, 12, 13] krf trivial ?_;refine zg1 ?_;refine zek ?_;refine zg1 ?_;refine zbW ?_;refine zbi ?_;refine z4G ?_;refine zg1 ?_;refine zbW ?_;refine zbi ?_;refine zg1 ?_
  repeat (first | (refine zc (by exact zc9) ?_) | (refine OpsL.nil ?_; (skip)))
  refine zg1 ?_;refine zw sdc (z3M evr evr xrf xrf (by omega) (by omega)) ?_;rw [hj];refine z0n ?_;refine zg1 ?_
  repeat (first | (refine zc (by exact old) ?_) | (refine OpsL.nil ?_; (dsimp only)))
  refine z4G ?_;refine zei ?_;refine OpsL.c2 (hf := z1x) (hc := (z5w W0 _ _ (by omega) (by omega))) (h := ?_);rintro v1 nx1 H1 ⟨rfl, rfl, rfl⟩;refine OpsL.nil ⟨trivial, ?_⟩;refine zel ?_
  (change Trip _ _ _ _ _)
  refine zdq ?_;exact ⟨.inr rfl, _, zn, by unfold z6f; rw [if_neg hz]; rfl, τ, rfl, rfl, hτ, hB'⟩
end Go.Proofs.Ytjgbcpagfghfnaa

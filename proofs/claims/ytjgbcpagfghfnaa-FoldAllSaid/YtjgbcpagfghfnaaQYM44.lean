import Derived.Test.YtjgbcpagfghfnaaQYM40
import Derived.Test.YtjgbcpagfghfnaaQYM15
import Derived.Test.YtjgbcpagfghfnaaQYM43
set_option linter.unusedVariables false
set_option linter.unusedSimpArgs false
namespace Go.Am
open Go.RowKit
structure HasAll (m : Mo) (got : List Bool) (l : List Int) (p : Nat) : Prop where
 inn : ∀ x ∈ m.inn.getD p [], x ∈ l
 low : ∀ x ∈ m.low.getD p [], x ∈ l
 ret : ∀ j q, j < (m.ret.getD p []).length → got.getD q false = true → ((m.ret.getD p []).getD j []).getD q 0 ∈ l
theorem HasAll.mono {m : Mo} {got : List Bool} {l l' : List Int} {p : Nat} (h : HasAll m got l p) (hs : ∀ x ∈ l, x ∈ l') : HasAll m got l' p := ⟨fun x hx => hs x (h.inn x hx), fun x hx => hs x (h.low x hx), fun j q hj hq => hs _ (h.ret j q hj hq)⟩
structure GotOk (m : Mo) (got : List Bool) : Prop where
 len : got.length = m.of.length
 sub : ∀ p, got.getD p false = true → (z0 m).getD p false = true
 ent : ∀ p ∈ m.entry, got.getD p.toNat false = true
theorem zd3 {m : Mo} {got : List Bool} {l : List Int} (hg : GotOk m got) (hall : ∀ p, got.getD p false = true → HasAll m got l p) (hl : ∀ x ∈ l, got.getD x.toNat false = true) : Closed m got :=
 ⟨hg.ent, fun p hp x hx => hl x ((hall p hp).inn x hx), fun p hp x hx => hl x ((hall p hp).low x hx), fun p q hp hq x hx => by
  obtain ⟨j, hj, rfl⟩ := zf7 hx;exact hl _ ((hall p hp).ret j q hj hq)⟩
def zc0 (got : List Bool) : Nat := got.count false
theorem z3o {got : List Bool} {x p : Nat} (hx : x < got.length) : (got.set x true).getD p false = if p = x then true else got.getD p false := by
 rw [List.getD_eq_getElem?_getD, List.getD_eq_getElem?_getD, List.getElem?_set];by_cases e : x = p
 ·subst e; rw [if_pos rfl, if_pos hx, if_pos rfl]; rfl
 ·rw [if_neg e, if_neg (fun q => e q.symm)]
theorem zdP {got : List Bool} {x : Nat} (hx : x < got.length) (h : got.getD x false = false) : zc0 (got.set x true) + 1 = zc0 got := by
 unfold zc0;have e : got[x] = false := by rw [List.getD_eq_getElem?_getD, List.getElem?_eq_getElem hx] at h; exact h
 rw [List.count_set hx, e];have : 0 < got.count false := List.count_pos_iff.2 (by rw [← e]; exact List.getElem_mem hx);simp;omega
structure Laid4 (m : Mo) (got : List Bool) (l : List Int) (p k : Nat) : Prop where
 len : l.length ≤ k
 ok : ∀ x ∈ l, (0 ≤ x ∧ x < (m.of.length : Int)) ∧ (z0 m).getD x.toNat false = true
 all : ∀ p', p' < p → got.getD p' false = true → HasAll m got l p'
theorem Laid4.app {m : Mo} {got : List Bool} {l us : List Int} {p k k' : Nat} (h : Laid4 m got l p k) (hu : ∀ x ∈ us, (0 ≤ x ∧ x < (m.of.length : Int)) ∧ (z0 m).getD x.toNat false = true) (hk : k + us.length ≤ k') : Laid4 m got (l ++ us) p k' := by
 refine ⟨by rw [List.length_append]; have := h.len; omega, fun x hx => ?_, fun p' h1 h2 => (h.all p' h1 h2).mono fun x hx => List.mem_append_left _ hx⟩;rcases List.mem_append.1 hx with h1 | h1
 ·exact h.ok x h1
 ·exact hu x h1
structure Laid6 (m : Mo) (got : List Bool) (l : List Int) (p j : Nat) : Prop where
 inn : ∀ x ∈ m.inn.getD p [], x ∈ l
 low : ∀ x ∈ m.low.getD p [], x ∈ l
 ret : ∀ j' q, j' < j → got.getD q false = true → ((m.ret.getD p []).getD j' []).getD q 0 ∈ l
theorem Laid6.app {m : Mo} {got : List Bool} {l us : List Int} {p j : Nat} (h : Laid6 m got l p j) : Laid6 m got (l ++ us) p j := ⟨fun x hx => List.mem_append_left _ (h.inn x hx), fun x hx => List.mem_append_left _ (h.low x hx), fun j' q h1 h2 => List.mem_append_left _ (h.ret j' q h1 h2)⟩
end Go.Am
namespace Go.Proofs.Ytjgbcpagfghfnaa
open Go.Am Go.RowKit
attribute [local irreducible] aop OpsL Trip zt z1X z1E OpsR OpsQ
structure RcS (σ0 σ : CH) (b : Nat) (got : List Bool) (lv : Value) (l : List Int) : Prop where
 old : OldC σ0 σ
 g : ObC .tmp σ b (.cells (got.map .bool) 1 none false (some 4))
 l : OwnC z1L 3 (.tab 0) σ lv l
theorem RcS.app {σ0 σ τ : CH} {b : Nat} {got : List Bool} {lv lv' : Value} {l l' : List Int} (h : RcS σ0 σ b got lv l) (hx : Chg [.tab 0] σ τ) (ho : OwnC z1L 3 (.tab 0) τ lv' l') : RcS σ0 τ b got lv' l' := ⟨h.old.keep hx (by simp), h.g.keep hx (by simp), ho⟩
theorem RcS.set {σ0 σ τ : CH} {b : Nat} {got got' : List Bool} {lv : Value} {l : List Int} (h : RcS σ0 σ b got lv l) (hx : Chg [.tmp] σ τ) (ho : ObC .tmp τ b (.cells (got'.map .bool) 1 none false (some 4))) : RcS σ0 τ b got' lv l := ⟨h.old.keep hx (by simp), ho, h.l.keep hx (by simp)⟩
theorem RcS.keep {σ0 σ τ : CH} {b : Nat} {got : List Bool} {lv : Value} {l : List Int} (h : RcS σ0 σ b got lv l) (hx : Chg [] σ τ) : RcS σ0 τ b got lv l := ⟨h.old.keep hx (by simp), h.g.keep hx (by simp), h.l.keep hx (by simp)⟩
theorem RcS.cell {σ0 σ : CH} {b : Nat} {got : List Bool} {lv : Value} {l : List Int} (h : RcS σ0 σ b got lv l) {p : Nat} (hp : p < got.length) : zf σ.H ⟨b, 0 + p * 1, none⟩ (.bool (got.getD p false)) := by
 rw [Nat.zero_add, Nat.mul_one];exact h.g.cell (by rw [List.getElem?_map, List.getElem?_eq_getElem hp, List.getD_eq_getElem?_getD, List.getElem?_eq_getElem hp]; rfl)
theorem z3R : Am.z1G Try.prog 11 := ⟨Try.f11, Try.func11, by kernel_rfl, by kernel_rfl⟩
set_option maxRecDepth 20000 in
set_option maxHeartbeats 16000000 in
theorem z6U (W0 : World) {nx : Nat} {H : Heap} {m : Mo} {V : MoV} (hm : MoIn H m V) (hmod : ModOk m) :
  ACalls Try.prog W0 11 [.agg (moV m V).toArray] nx H fun v nx' H' => NewP 4 nx nx' H' v ((z0 m).map .bool) ∧ Ext nx H nx' H' := by
 refine zg (fn := Try.f11) (c := _) Try.func11 rfl (fun tm n hn0 htm => ?_);have e0 : tm 0 = .agg (moV m V).toArray := htm 0;clear htm;replace hn0 : n = 109 := hn0;refine Trip.ok fun hok => ?_;replace hok : ∀ id o, H id = some o → id < nx := hok;refine z2k ?_;refine zY hm hok ?_ evd sdc;intro G x0 okG hb hG;clear e0;obtain ⟨qofa, qofc, qofv⟩ := hG.of.slice;have qofh := hG.of;have g2 := hb.c2;rw [qofv] at qofh g2;obtain ⟨entrya, entryc, entryv⟩ := hG.entry.slice;have entryh := hG.entry;have g3 := hb.c3;rw [entryv] at entryh g3;obtain ⟨inna, innc, innv⟩ := hG.inn.slice;have innh := hG.inn;have g5 := hb.c5;rw [innv] at innh g5;obtain ⟨lowa, lowc, lowv⟩ := hG.low.slice;have lowh := hG.low;have g6 := hb.c6;rw [lowv] at lowh g6;obtain ⟨reta, retc, retv⟩ := hG.ret.slice;have reth := hG.ret;have g7 := hb.c7;rw [retv] at reth g7;have hn60 := hmod.n.2;have hk21 := hmod.k.2;have hst := hmod.st;have hcr := z0W hst
 have hlens : (z0 m).length ≤ m.of.length ∧ m.inn.length ≤ m.of.length ∧ m.of.length ≤ m.inn.length ∧ m.low.length ≤ m.of.length ∧ m.of.length ≤ m.low.length ∧ m.ret.length ≤ m.of.length ∧ m.of.length ≤ m.ret.length := by
  have := z0j hst; have := hmod.il; have := hmod.ll; have := hmod.rl; omega
 have hrp : ∀ p, p < m.of.length → ((m.inn.getD p []).length ≤ 20 ∧ (m.low.getD p []).length ≤ 20 ∧ (m.ret.getD p []).length ≤ 20) ∧ ∀ j, j < (m.ret.getD p []).length → ((m.ret.getD p []).getD j []).length ≤ m.of.length ∧ m.of.length ≤ ((m.ret.getD p []).getD j []).length := fun p hp => by
  have h1 := (hmod.inn p hp).1;have h2 := hmod.pl;have h3 := hmod.cl;by_cases hz : m.of.getD p 0 = 0
  ·have h4 := (hmod.low0 p hp hz).1;rw [hmod.ret0 p hp hz];exact ⟨⟨by omega, by omega, by simp⟩, fun j hj => by simp at hj⟩
  ·have h4 := hmod.ret1 p hp hz;rw [hmod.low1 p hp hz];exact ⟨⟨by omega, by simp, by omega⟩, fun j hj => by have := (h4.2 j hj).1; omega⟩
 have hcellG : ∀ {τ : CH}, OldC ⟨nx + 1, fun _ => .old, G⟩ τ → ∀ {a : Addr} {v : Value}, zf G a v → zf τ.H a v := fun h _ _ hc => zI h.ext okG hc;refine zgQ ?_;have hK : OldC ⟨nx + 1, fun _ => .old, G⟩ ⟨nx + 1, fun _ => .old, G⟩ := OldC.refl;obtain ⟨σ, hσ1, hσ2, hoσ⟩ : ∃ σ : CH, σ.nx = nx + 1 ∧ σ.H = G ∧ OldC ⟨nx + 1, fun _ => .old, G⟩ σ := ⟨_, rfl, rfl, hK⟩;rw [← hσ1, ← hσ2];clear hK;refine zo .tmp (z0m evd evd (z0f (m := m.of.length) (bytes := 1) (z := .bool false) xrf xrf xrf xrf (by omega) (by omega))) sdc ?_;intro σ1 hg x1;obtain ⟨b, hb0⟩ : ∃ b, σ.nx = b := ⟨_, rfl⟩;rw [hb0] at hg ⊢;have hrep : (List.replicate m.of.length false).map Value.bool = List.replicate m.of.length (.bool false) := List.map_replicate;have hS : RcS ⟨nx + 1, fun _ => .old, G⟩ σ1 b (List.replicate m.of.length false) (.slice none 0 0) [] := ⟨hoσ.keep x1 (by simp), by rw [hrep]; exact hg, OwnC.nil⟩;have hb1 : nx + 1 ≤ b := by omega
 have g0len : (List.replicate m.of.length false).length = m.of.length := List.length_replicate
 have g0no : ∀ p, (List.replicate m.of.length false).getD p false = false := fun p => by
  rw [List.getD_eq_getElem?_getD, List.getElem?_replicate]; split <;> rfl
 generalize List.replicate m.of.length false = got0 at hS g0len g0no;have g0l := PLift.up g0len;clear hrep hg x1 hoσ hσ1 hσ2 hb0 g0len;refine zdt ?_
 -- the entries
 refine Trip.mono (Q := fun e st => e = .exit 0 ∧ ∃ (tm' : Nat → Value) (τ : CH) (got : List Bool), st = ⟨tm', n, τ.H, τ.nx⟩ ∧ tm' 1 = .pointer (some ⟨nx, 0, none⟩) ∧ tm' 3 = .slice (some ⟨b, 0, none⟩) m.of.length m.of.length ∧ RcS ⟨nx + 1, fun _ => .old, G⟩ τ b got (.slice none 0 0) [] ∧ GotOk m got) ?_ ?_
 ·refine zG (fun (i : Nat) s => ∃ (tm : Nat → Value) (τ : CH) (got : List Bool), s = ⟨tm, n, τ.H, τ.nx⟩ ∧ tm 1 = .pointer (some ⟨nx, 0, none⟩) ∧ tm 3 = .slice (some ⟨b, 0, none⟩) m.of.length m.of.length ∧ tm 4 = .int .i64 i ∧ i ≤ m.entry.length ∧ RcS ⟨nx + 1, fun _ => .old, G⟩ τ b got (.slice none 0 0) [] ∧ (got.length ≤ m.of.length ∧ m.of.length ≤ got.length) ∧ (∀ p, got.getD p false = true → (z0 m).getD p false = true) ∧ ∀ k, k < i → got.getD (m.entry.getD k 0).toNat false = true) (fun i => m.entry.length - i) 0 ?_ ?_
  ·exact ⟨_, σ1, got0, rfl, stp, stp, stp, by omega, hS, (by have := g0l.down; omega), (fun p h => by rw [g0no] at h; cases h), (fun k hk => by omega)⟩
  clear hS g0l g0no;rintro i s ⟨tm, τ, got, rfl, t1, t3, t4, hi, hS, hgl, hsub, hent⟩;have g3' := hcellG hS.old g3
  repeat (first | (refine zc (by first | exact omv | exact ofa | exact old | exact z1g | exact z24) ?_) | (refine Trip.seq ?_) | (refine zd ?_) | (refine Trip.block ?_) | (refine zJ (fun _ => ?_) (fun _ => ?_)) | (refine Trip.skip ?_; (change Trip _ _ _ _ _)) | (refine OpsL.nil ?_; (change Trip _ _ _ _ _)))
  ·have hlt : i < m.entry.length := by omega
   obtain ⟨p, rfl, hc⟩ := IntsAt.atI entryh (show (0 : Int) ≤ i by omega) (show (i : Int) < m.entry.length by omega);rw [Int.toNat_natCast] at hc;replace hc := hcellG hS.old hc;have hmem := zM (l := m.entry) (i := i) hlt;obtain ⟨x, hx⟩ : ∃ x, m.entry.getD i 0 = x := ⟨_, rfl⟩;rw [hx] at hc hmem;have hxb := hst.entry x hmem;have hxr := hcr.entry x hmem
   repeat (first | (refine zc (by first | exact old | exact z1j) ?_))
   refine zP (k := x.toNat) (v := .bool true) (cs' := (got.set x.toNat true).map .bool) hS.g (by rw [List.length_map]; omega) (by rw [List.map_set]) rfl xrf rfl evr (by rfl) (by show (⟨b, 0 + x.toNat * 1, none⟩ : Addr) = _; rw [Nat.zero_add, Nat.mul_one]) ?_;intro τ2 hg2 x2 _;have hS2 := hS.set x2 hg2;refine z0n ?_;refine zc4 ?_;refine ⟨i + 1, ⟨_, τ2, _, rfl, stp, stp, stp, by omega, hS2, (by rw [List.length_set]; exact hgl), fun p hp => ?_, fun k hk => ?_⟩, by omega⟩
   ·rw [z3o (by omega)] at hp;split at hp
    ·rename_i e; rw [e]; exact hxr
    ·exact hsub p hp
   ·rw [z3o (by omega)];split
    ·rfl
    ·rename_i e;by_cases ek : k = i
     ·rw [ek, hx] at e; exact absurd rfl e
     ·exact hent k (by omega)
  ·have hie : i = m.entry.length := by omega
   repeat (first | (refine Trip.exit ?_; (dsimp only)))
   exact ⟨rfl, _, τ, got, rfl, stp, stp, hS, ⟨by omega, hsub, fun p hp => by
    obtain ⟨k, hk, rfl⟩ := z83 hp;exact hent k (by omega)⟩⟩
 clear hS g0l g0no;rintro e st ⟨rfl, tm, τ, got, rfl, t1, t3, hS, hG1⟩
 ((repeat (refine zD ?_)); change Trip _ _ _ _ _)
 refine zdt ?_;refine zG (fun (i : Nat) s => ∃ (tm : Nat → Value) (τ : CH) (got : List Bool) (lv : Value) (l : List Int) (again : Bool), s = ⟨tm, n, τ.H, τ.nx⟩ ∧ tm 1 = .pointer (some ⟨nx, 0, none⟩) ∧ tm 3 = .slice (some ⟨b, 0, none⟩) m.of.length m.of.length ∧ tm 5 = .bool again ∧ RcS ⟨nx + 1, fun _ => .old, G⟩ τ b got lv l ∧ GotOk m got ∧ (again = false → Closed m got) ∧ 2 * zc0 got + (if again then 1 else 0) ≤ i) (fun i => i) (2 * zc0 got + 1) ?_ ?_
 ·exact ⟨_, τ, got, _, _, true, rfl, stp, stp, stp, hS, hG1, (fun q => by cases q), Nat.le_refl _⟩
 clear hS hG1 t1 t3;rintro i0 s ⟨tm, τ, got, lv0, l0, again, rfl, t1, t3, t5, hS0, hG1, hagain, hmeas⟩;have hS : RcS ⟨nx + 1, fun _ => .old, G⟩ τ b got (.slice none 0 0) [] := ⟨hS0.old, hS0.g, OwnC.nil⟩;clear hS0
 repeat (first | (refine zc (by exact omv) ?_) | (refine Trip.seq ?_) | (refine zd ?_) | (refine OpsL.nil ?_; (change Trip _ _ _ _ _)))
 cases again
 rotate_left
 ·refine z07 ?_;have hgl : got.length ≤ m.of.length ∧ m.of.length ≤ got.length := by have := hG1.len; omega
  rw [if_pos rfl] at hmeas;refine zc5 ?_;refine Trip.mono (Q := fun e st => e = .exit 4 ∧ ∃ (tm' : Nat → Value) (τ : CH) (lv : Value) (l : List Int), st = ⟨tm', n, τ.H, τ.nx⟩ ∧ tm' 1 = .pointer (some ⟨nx, 0, none⟩) ∧ tm' 3 = .slice (some ⟨b, 0, none⟩) m.of.length m.of.length ∧ tm' 5 = .bool false ∧ tm' 6 = lv ∧ RcS ⟨nx + 1, fun _ => .old, G⟩ τ b got lv l ∧ Laid4 m got l m.of.length 74400) ?_ ?_
  ·refine zG (fun (p : Nat) s => ∃ (tm : Nat → Value) (τ : CH) (lv : Value) (l : List Int), s = ⟨tm, n, τ.H, τ.nx⟩ ∧ tm 1 = .pointer (some ⟨nx, 0, none⟩) ∧ tm 3 = .slice (some ⟨b, 0, none⟩) m.of.length m.of.length ∧ tm 5 = .bool false ∧ tm 6 = lv ∧ tm 7 = .int .i64 p ∧ p ≤ m.of.length ∧ RcS ⟨nx + 1, fun _ => .old, G⟩ τ b got lv l ∧ Laid4 m got l p (1240 * p)) (fun p => m.of.length - p) 0 ?_ ?_
   ·exact ⟨_, τ, _, _, rfl, stp, stp, stp, stp, stp, by omega, hS, Nat.le_refl _, (fun x hx => by cases hx), (fun p' h => by omega)⟩
   clear hS t1 t3 t5;rintro p s ⟨tm, τ, lv, l, rfl, t1, t3, t5, t6, t7, hp, hS, hL⟩
   repeat (first | (refine zc (by first | exact omv | exact z1g | exact z24) ?_) | (refine Trip.seq ?_) | (refine zd ?_) | (refine Trip.block ?_) | (refine zJ (fun _ => ?_) (fun _ => ?_)) | (refine Trip.skip ?_; (change Trip _ _ _ _ _)) | (refine OpsL.nil ?_; (change Trip _ _ _ _ _)))
   ·have hlt : p < m.of.length := by omega
    have hcp := hS.cell (show p < got.length by omega);cases hgp : got.getD p false
    ·rw [hgp] at hcp;refine zfD ?_;refine z07 ?_
     repeat (first | (refine zc (by first | exact omv | exact z6e | exact z09) ?_) | (refine zd ?_) | (refine Trip.exit ?_; ((repeat (refine zD ?_)); change Trip _ _ _ _ _)) | (refine OpsL.nil ?_; (dsimp only)))
     exact ⟨p + 1, ⟨_, τ, lv, l, rfl, stp, stp, stp, stp, stp, by omega, hS, by have := hL.len; omega, hL.ok, fun p' h1 h2 => by
      by_cases e : p' = p
      ·rw [e, hgp] at h2; cases h2
      ·exact hL.all p' (by omega) h2⟩, by omega⟩
    ·rw [hgp] at hcp;refine zfD ?_;refine zdo ?_;have hst2 := hrp p (by omega);obtain ⟨pi, bi, ki, rfl, ci, ri⟩ := L2At.atI innh (show (0 : Int) ≤ p by omega) (show (p : Int) < m.inn.length by omega);obtain ⟨pl, bl, kl, rfl, cl, rl⟩ := L2At.atI lowh (show (0 : Int) ≤ p by omega) (show (p : Int) < m.low.length by omega);obtain ⟨pr, br, kr, rfl, cr, rr⟩ := L3At.atI reth (show (0 : Int) ≤ p by omega) (show (p : Int) < m.ret.length by omega);rw [Int.toNat_natCast] at ci ri cl rl cr rr;have g7' := hcellG hS.old g7;have cr' := hcellG hS.old cr;have hinn : ∀ x ∈ m.inn.getD p [], (0 ≤ x ∧ x < (m.of.length : Int)) ∧ (z0 m).getD x.toNat false = true := fun x hx => ⟨hst.inn _ x hx, hcr.inn p (hG1.sub p hgp) x hx⟩;have hlow : ∀ x ∈ m.low.getD p [], (0 ≤ x ∧ x < (m.of.length : Int)) ∧ (z0 m).getD x.toNat false = true := fun x hx => ⟨hst.low _ x hx, hcr.low p (hG1.sub p hgp) x hx⟩;refine Trip.mono (Q := fun e st => e = .normal ∧ ∃ (tm' : Nat → Value) (τ : CH) (lv : Value), st = ⟨tm', n, τ.H, τ.nx⟩ ∧ tm' 1 = .pointer (some ⟨nx, 0, none⟩) ∧ tm' 3 = .slice (some ⟨b, 0, none⟩) m.of.length m.of.length ∧ tm' 5 = .bool false ∧ tm' 6 = lv ∧ tm' 7 = .int .i64 p ∧ RcS ⟨nx + 1, fun _ => .old, G⟩ τ b got lv (l ++ m.inn.getD p [] ++ m.low.getD p [])) ?_ ?_
     ·have hK : ∀ {τ : CH}, OldC ⟨nx + 1, fun _ => .old, G⟩ τ → zf τ.H ⟨nx, 6, none⟩ (.slice (some pl) m.low.length lowc) ∧ zf τ.H ⟨pl.block, pl.off + p * 1, pl.spot⟩ (.slice bl (m.low.getD p []).length kl) := fun h => ⟨hcellG h g6, hcellG h cl⟩;have g5' := hcellG hS.old g5;have ci' := hcellG hS.old ci;have h0 := hK hS.old;refine OpsQ.drawn [6, 12, 13] (K := fun _ _ H => zf H ⟨nx, 6, none⟩ (.slice (some pl) m.low.length lowc) ∧ zf H ⟨pl.block, pl.off + p * 1, pl.spot⟩ (.slice bl (m.low.getD p []).length kl)) zU krf krf [0, 1, 2, 3, 4, 5, 7, 8, 9, 10, 11, 6, 12, 13] krf (fun _ _ => h0) ?_;refine zg8 ?_;refine zek ?_;refine z7e ?_;refine z5s ?_;refine z00 12 (v := (.slice (some pl) m.low.length lowc)) rfl krf sdc h0 (fun H2 nx2 hK => z0a evr xrf rfl hK.1) ?_;refine zg3 ?_;refine zds ?_;refine z00 12 (v := (.slice bl (m.low.getD p []).length kl)) rfl krf sdc h0 (fun H2 nx2 hK => z0a evr xrf rfl hK.2) ?_;refine z1K ?_;refine zT (bytes := 8) (z := [.int .i64 0]) zR z0I hS.l (z7G (IntsAt.ext hS.old.ext okG ri)) xrf xrf xrf xrf xrf rfl (by have := hL.len; omega) (by omega) evd evd sdc ?_;intro v1 τ1 ho1 x1;have hS1 := hS.app x1 ho1;refine OpsL.nil ⟨fun _ _ => hK hS1.old, ?_⟩;refine z1K ?_;refine zT (bytes := 8) (z := [.int .i64 0]) zR z0I hS1.l (z7G (IntsAt.ext hS1.old.ext okG rl)) xrf xrf xrf xrf xrf rfl (by have := hL.len; rw [List.length_append]; omega) (by omega) evd evd sdc ?_;intro v2 τ2 ho2 x2;have hS2 := hS1.app x2 ho2;refine OpsL.nil ⟨fun _ _ => hK hS2.old, ?_⟩;refine z1K ?_
      (first | (refine zc (by exact z09) ?_))
      refine OpsL.nil ⟨fun k hk => absurd hk (by simp), ?_⟩;exact OpsQ.nil ⟨rfl, _, τ2, v2, rfl, stp, stp, stp, stp, stp, hS2⟩
     have hL2 : Laid4 m got (l ++ m.inn.getD p [] ++ m.low.getD p []) p (1240 * p + 40) := (hL.app (k' := 1240 * p + 20) hinn (by omega)).app hlow (by omega);have hJ0 : Laid6 m got (l ++ m.inn.getD p [] ++ m.low.getD p []) p 0 := ⟨fun x hx => List.mem_append_left _ (List.mem_append_right _ hx), fun x hx => List.mem_append_right _ hx, fun j' q h => by omega⟩;clear hS hL t1 t3 t5 t6 t7 hcp;rintro e st ⟨rfl, tm, τ, lv2, rfl, t1, t3, t5, t6, t7, hS⟩;generalize l ++ m.inn.getD p [] ++ m.low.getD p [] = l2 at hS hL2 hJ0;clear g7' cr'
     (change Trip _ _ _ _ _)
     refine zdt ?_;refine Trip.mono (Q := fun e st => e = .exit 6 ∧ ∃ (tm' : Nat → Value) (τ : CH) (lv : Value) (l : List Int), st = ⟨tm', n, τ.H, τ.nx⟩ ∧ tm' 1 = .pointer (some ⟨nx, 0, none⟩) ∧ tm' 3 = .slice (some ⟨b, 0, none⟩) m.of.length m.of.length ∧ tm' 5 = .bool false ∧ tm' 6 = lv ∧ tm' 7 = .int .i64 p ∧ RcS ⟨nx + 1, fun _ => .old, G⟩ τ b got lv l ∧ Laid4 m got l p (1240 * p + 1240) ∧ Laid6 m got l p (m.ret.getD p []).length) ?_ ?_
     ·refine zG (fun (j : Nat) s => ∃ (tm : Nat → Value) (τ : CH) (lv : Value) (l : List Int), s = ⟨tm, n, τ.H, τ.nx⟩ ∧ tm 1 = .pointer (some ⟨nx, 0, none⟩) ∧ tm 3 = .slice (some ⟨b, 0, none⟩) m.of.length m.of.length ∧ tm 5 = .bool false ∧ tm 6 = lv ∧ tm 7 = .int .i64 p ∧ tm 8 = .int .i64 j ∧ j ≤ (m.ret.getD p []).length ∧ RcS ⟨nx + 1, fun _ => .old, G⟩ τ b got lv l ∧ Laid4 m got l p (1240 * p + 40 + 60 * j) ∧ Laid6 m got l p j) (fun j => (m.ret.getD p []).length - j) 0 ?_ ?_
      ·exact ⟨_, τ, _, l2, rfl, stp, stp, stp, stp, stp, stp, by omega, hS, hL2, hJ0⟩
      clear hS hL2 hJ0 t1 t3 t5 t6 t7;rintro j s ⟨tm, τ, lv, l, rfl, t1, t3, t5, t6, t7, t8, hj, hS, hL, hJ⟩;have g7' := hcellG hS.old g7;have cr' := hcellG hS.old cr
      repeat (first | (refine zc (by first | exact omv | exact ofa | exact old | exact z1j | exact z1g | exact z24) ?_) | (refine Trip.seq ?_) | (refine zd ?_) | (refine Trip.block ?_) | (refine zJ (fun _ => ?_) (fun _ => ?_)) | (refine Trip.skip ?_; (change Trip _ _ _ _ _)) | (refine OpsL.nil ?_; (change Trip _ _ _ _ _)))
      ·have hjlt : j < (m.ret.getD p []).length := by omega
       obtain ⟨pj, bj, kj, rfl, cj, rj⟩ := L2At.atI rr (show (0 : Int) ≤ j by omega) (show (j : Int) < (m.ret.getD p []).length by omega);rw [Int.toNat_natCast] at cj rj;have hjl := hst2.2 j hjlt;clear g7' cr'
       repeat (first | (refine zc (by exact z09) ?_) | (refine Trip.block ?_) | (refine OpsL.nil ?_; (change Trip _ _ _ _ _)))
       refine Trip.mono (Q := fun e st => e = .exit 8 ∧ ∃ (tm' : Nat → Value) (τ : CH) (lv : Value) (l : List Int), st = ⟨tm', n, τ.H, τ.nx⟩ ∧ tm' 1 = .pointer (some ⟨nx, 0, none⟩) ∧ tm' 3 = .slice (some ⟨b, 0, none⟩) m.of.length m.of.length ∧ tm' 5 = .bool false ∧ tm' 6 = lv ∧ tm' 7 = .int .i64 p ∧ tm' 8 = .int .i64 j ∧ RcS ⟨nx + 1, fun _ => .old, G⟩ τ b got lv l ∧ Laid4 m got l p (1240 * p + 40 + 60 * (j + 1)) ∧ Laid6 m got l p (j + 1)) ?_ ?_
       ·refine zG (fun (q : Nat) s => ∃ (tm : Nat → Value) (τ : CH) (lv : Value) (l : List Int), s = ⟨tm, n, τ.H, τ.nx⟩ ∧ tm 1 = .pointer (some ⟨nx, 0, none⟩) ∧ tm 3 = .slice (some ⟨b, 0, none⟩) m.of.length m.of.length ∧ tm 5 = .bool false ∧ tm 6 = lv ∧ tm 7 = .int .i64 p ∧ tm 8 = .int .i64 j ∧ tm 9 = .int .i64 q ∧ q ≤ m.of.length ∧ RcS ⟨nx + 1, fun _ => .old, G⟩ τ b got lv l ∧ Laid4 m got l p (1240 * p + 40 + 60 * j + q) ∧ Laid6 m got l p j ∧ ∀ q', q' < q → got.getD q' false = true → ((m.ret.getD p []).getD j []).getD q' 0 ∈ l) (fun q => m.of.length - q) 0 ?_ ?_
        ·exact ⟨_, τ, _, l, rfl, stp, stp, stp, stp, stp, stp, stp, by omega, hS, hL, hJ, fun q' h => by omega⟩
        clear hS hL hJ t1 t3 t5 t6 t7 t8;rintro q s ⟨tm, τ, lv, l, rfl, t1, t3, t5, t6, t7, t8, t9, hq, hS, hL, hJ, hqs⟩;have g7' := hcellG hS.old g7;have cr' := hcellG hS.old cr;have cj' := hcellG hS.old cj
        repeat (first | (refine zc (by first | exact omv | exact z1g | exact z24) ?_) | (refine Trip.seq ?_) | (refine zd ?_) | (refine Trip.block ?_) | (refine zJ (fun _ => ?_) (fun _ => ?_)) | (refine Trip.skip ?_; (change Trip _ _ _ _ _)) | (refine OpsL.nil ?_; (change Trip _ _ _ _ _)))
        ·have hqlt : q < m.of.length := by omega
         have hcq := hS.cell (show q < got.length by omega);cases hgq : got.getD q false
         ·rw [hgq] at hcq
          repeat (first | (refine zc (by first | exact z1j | exact old) ?_) | (refine OpsL.nil ?_; (change Trip _ _ _ _ _)))
          refine z2r ?_;refine z9R ?_;refine ⟨q + 1, ⟨_, τ, lv, l, rfl, stp, stp, stp, stp, stp, stp, stp, by omega, hS, ⟨by have := hL.len; omega, hL.ok, hL.all⟩, hJ, fun q' h1 h2 => ?_⟩, by omega⟩;by_cases e : q' = q
          ·rw [e, hgq] at h2; cases h2
          ·exact hqs q' (by omega) h2
         ·rw [hgq] at hcq;have hrm := z2a (m := m) (p := p) (q := q) hjlt;have hrx : (0 ≤ ((m.ret.getD p []).getD j []).getD q 0 ∧ ((m.ret.getD p []).getD j []).getD q 0 < (m.of.length : Int)) ∧ (z0 m).getD (((m.ret.getD p []).getD j []).getD q 0).toNat false = true := ⟨hst.ret _ _ hqlt _ hrm, hcr.ret p q (hG1.sub p hgp) (hG1.sub q hgq) _ hrm⟩;obtain ⟨pq, rfl, cq⟩ := IntsAt.atI rj (show (0 : Int) ≤ q by omega) (show (q : Int) < ((m.ret.getD p []).getD j []).length by omega);rw [Int.toNat_natCast] at cq;have cq' := hcellG hS.old cq;obtain ⟨z, hz⟩ : ∃ z, ((m.ret.getD p []).getD j []).getD q 0 = z := ⟨_, rfl⟩;rw [hz] at cq' hrx
          repeat (first | (refine zc (by first | exact z1j | exact old) ?_) | (refine OpsL.nil ?_; (change Trip _ _ _ _ _)))
          refine z07 ?_
          repeat (first | (refine zc (by first | exact omv | exact ofa | exact z1j | exact old) ?_) | (refine zd ?_))
          refine z0i (σ := τ) (enc := z1L) (z := z) (el := 3) rfl evd krf sdc ?_;intro τ1 x1 hu;have hS1 := hS.keep x1;refine zT (bytes := 8) (z := [.int .i64 0]) zR z0I hS1.l hu xrf xrf xrf xrf xrf rfl (by have := hL.len; simp only [List.length_singleton]; omega) (by omega) evd evd sdc ?_;intro v2 τ2 ho2 x2;have hS2 := hS1.app x2 ho2;refine zgT ?_;refine ⟨q + 1, ⟨_, τ2, v2, l ++ [z], rfl, stp, stp, stp, stp, stp, stp, stp, by omega, hS2, hL.app (fun x hx => ?_) (by simp only [List.length_singleton]; omega), hJ.app, fun q' h1 h2 => ?_⟩, by omega⟩
          ·rw [List.mem_singleton] at hx; rw [hx]; exact hrx
          ·by_cases e : q' = q
           ·rw [e, hz]; exact List.mem_append_right _ (List.mem_singleton.2 rfl)
           ·exact List.mem_append_left _ (hqs q' (by omega) h2)
        ·have hqe : q = m.of.length := by omega
         repeat (first | (refine Trip.exit ?_; (dsimp only)))
         refine ⟨rfl, _, τ, lv, l, rfl, stp, stp, stp, stp, stp, stp, hS, ⟨by have := hL.len; omega, hL.ok, hL.all⟩, ⟨hJ.inn, hJ.low, fun j' q' h1 h2 => ?_⟩⟩;by_cases e : j' = j
         ·rw [e]; exact hqs q' (by have := z0v h2; omega) h2
         ·exact hJ.ret j' q' (by omega) h2
       clear hS hL hJ t1 t3 t5 t6 t7 t8;rintro e st ⟨rfl, tm, τ, lv, l, rfl, t1, t3, t5, t6, t7, t8, hS, hL, hJ⟩;refine zfS ?_;exact ⟨j + 1, ⟨_, τ, lv, l, rfl, stp, stp, stp, stp, stp, stp, by omega, hS, hL, hJ⟩, by omega⟩
      ·have hje : j = (m.ret.getD p []).length := by omega
       repeat (first | (refine Trip.exit ?_; (dsimp only)))
       exact ⟨rfl, _, τ, lv, l, rfl, stp, stp, stp, stp, stp, hS, ⟨by have := hL.len; omega, hL.ok, hL.all⟩, by rw [← hje]; exact hJ⟩
     clear hS hL2 hJ0 t1 t3 t5 t6 t7;rintro e st ⟨rfl, tm, τ, lv, l, rfl, t1, t3, t5, t6, t7, hS, hL, hJ⟩;refine zfS ?_;refine ⟨p + 1, ⟨_, τ, lv, l, rfl, stp, stp, stp, stp, stp, by omega, hS, by have := hL.len; omega, hL.ok, fun p' h1 h2 => ?_⟩, by omega⟩;by_cases e : p' = p
     ·rw [e]; exact ⟨hJ.inn, hJ.low, fun j' q h3 h4 => hJ.ret j' q h3 h4⟩
     ·exact hL.all p' (by omega) h2
   ·repeat (first | (refine Trip.exit ?_; (dsimp only)))
    have hpe : p = m.of.length := by omega
    subst hpe;exact ⟨rfl, _, τ, lv, l, rfl, stp, stp, stp, stp, hS, by have := hL.len; omega, hL.ok, hL.all⟩
  clear hS t1 t3 t5;rintro e st ⟨rfl, tm, τ, lv, l, rfl, t1, t3, t5, t6, hS, hL⟩
  ((repeat (refine zD ?_)); change Trip _ _ _ _ _)
  refine zdt ?_;refine Trip.mono (Q := fun e st => e = .exit 10 ∧ ∃ (tm' : Nat → Value) (τ : CH) (got' : List Bool) (ag : Bool), st = ⟨tm', n, τ.H, τ.nx⟩ ∧ tm' 1 = .pointer (some ⟨nx, 0, none⟩) ∧ tm' 3 = .slice (some ⟨b, 0, none⟩) m.of.length m.of.length ∧ tm' 5 = .bool ag ∧ tm' 6 = lv ∧ RcS ⟨nx + 1, fun _ => .old, G⟩ τ b got' lv l ∧ GotOk m got' ∧ (∀ x ∈ l, got'.getD x.toNat false = true) ∧ (ag = false → got' = got) ∧ (ag = true → zc0 got' < zc0 got)) ?_ ?_
  ·obtain ⟨la, lc, rfl⟩ := OwnC.slice zR hS.l;refine zG (fun (i : Nat) s => ∃ (tm : Nat → Value) (τ : CH) (got' : List Bool) (ag : Bool), s = ⟨tm, n, τ.H, τ.nx⟩ ∧ tm 1 = .pointer (some ⟨nx, 0, none⟩) ∧ tm 3 = .slice (some ⟨b, 0, none⟩) m.of.length m.of.length ∧ tm 5 = .bool ag ∧ tm 6 = .slice la l.length lc ∧ tm 10 = .int .i64 i ∧ i ≤ l.length ∧ RcS ⟨nx + 1, fun _ => .old, G⟩ τ b got' (.slice la l.length lc) l ∧ GotOk m got' ∧ (∀ k, k < i → got'.getD (l.getD k 0).toNat false = true) ∧ (ag = false → got' = got) ∧ (ag = true → zc0 got' < zc0 got)) (fun i => l.length - i) 0 ?_ ?_
   ·exact ⟨_, τ, got, false, rfl, stp, stp, stp, stp, stp, by omega, hS, hG1, (fun k h => by omega), fun _ => rfl, fun h => by cases h⟩
   clear hS t1 t3 t5 t6;rintro i s ⟨tm, τ, got', ag, rfl, t1, t3, t5, t6, t10, hi, hS, hG, hk, ha1, ha2⟩;have hll4 := hL.len
   repeat (first | (refine zc (by first | exact omv | exact z1g | exact z24) ?_) | (refine Trip.seq ?_) | (refine zd ?_) | (refine Trip.block ?_) | (refine zJ (fun _ => ?_) (fun _ => ?_)) | (refine Trip.skip ?_; (change Trip _ _ _ _ _)) | (refine OpsL.nil ?_; (change Trip _ _ _ _ _)))
   ·have hlt : i < l.length := by omega
    have hgl' : got'.length ≤ m.of.length ∧ m.of.length ≤ got'.length := by have := hG.len; omega
    obtain ⟨pa, hpa, cx⟩ := IntsAt.atI hS.l.ints (show (0 : Int) ≤ i by omega) (show (i : Int) < l.length by omega);rw [Int.toNat_natCast] at cx;subst hpa;obtain ⟨hxb, hxr⟩ := hL.ok _ (zM hlt);obtain ⟨x, hx⟩ : ∃ x, l.getD i 0 = x := ⟨_, rfl⟩;rw [hx] at cx hxb hxr;have hcg := hS.cell (p := x.toNat) (by omega);cases hgx : got'.getD x.toNat false
    ·rw [hgx] at hcg;refine zfD ?_;refine z07 ?_;refine zeL ?_;refine zP (k := x.toNat) (v := .bool true) (cs' := (got'.set x.toNat true).map .bool) hS.g (by rw [List.length_map]; omega) (by rw [List.map_set]) rfl xrf rfl evr (by rfl) (by show (⟨b, 0 + x.toNat * 1, none⟩ : Addr) = _; rw [Nat.zero_add, Nat.mul_one]) ?_;intro τ2 hg2 x2 _;have hS2 := hS.set x2 hg2;have hoff := zdP (got := got') (x := x.toNat) (by omega) hgx
     have hle : zc0 got' ≤ zc0 got := by
      cases ag
      ·rw [ha1 rfl]; exact Nat.le_refl _
      ·exact Nat.le_of_lt (ha2 rfl)
     refine zgT ?_;refine ⟨i + 1, ⟨_, τ2, _, true, rfl, stp, stp, stp, stp, stp, by omega, hS2, ⟨by rw [List.length_set]; exact hG.len, fun p hp => ?_, fun p hp => ?_⟩, fun k hk2 => ?_, (fun h => by cases h), (fun _ => by omega)⟩, by omega⟩
     ·rw [z3o (by omega)] at hp;split at hp
      ·rename_i e; rw [e]; exact hxr
      ·exact hG.sub p hp
     ·rw [z3o (by omega)];split
      ·rfl
      ·exact hG.ent p hp
     ·rw [z3o (by omega)];split
      ·rfl
      ·rename_i e;by_cases ek : k = i
       ·rw [ek, hx] at e; exact absurd rfl e
       ·exact hk k (by omega)
    ·rw [hgx] at hcg;refine zfD ?_;refine z2r ?_;refine z9R ?_;refine ⟨i + 1, ⟨_, τ, got', ag, rfl, stp, stp, stp, stp, stp, by omega, hS, hG, fun k hk2 => ?_, ha1, ha2⟩, by omega⟩;by_cases ek : k = i
     ·rw [ek, hx]; exact hgx
     ·exact hk k (by omega)
   ·have hie : i = l.length := by omega
    repeat (first | (refine Trip.exit ?_; (dsimp only)))
    exact ⟨rfl, _, τ, got', ag, rfl, stp, stp, stp, stp, hS, hG, (fun x hx => by
     obtain ⟨k, hk1, rfl⟩ := z83 hx;exact hk k (by omega)), ha1, ha2⟩
  clear hS t1 t3 t5 t6;rintro e st ⟨rfl, tm, τ, got', ag, rfl, t1, t3, t5, t6, hS, hG, hk, ha1, ha2⟩
  ((repeat (first | refine zD ?_ | refine zH ?_)); dsimp only)
  repeat fail
  have hgle := hgl.2;refine ⟨2 * zc0 got' + (if ag then 1 else 0), ⟨_, τ, got', lv, l, ag, rfl, stp, stp, stp, hS, hG, fun h => ?_, Nat.le_refl _⟩, ?_⟩
  ·have e := ha1 h;rw [e] at hk hG ⊢;exact zd3 hG (fun p hp => hL.all p (by have := z0v hp; omega) hp) hk
  ·cases ag
   ·rw [ha1 rfl]; simp; omega
   ·have := ha2 rfl; simp; omega
 ·refine z2d ?_;refine zdu ?_;have hc := hagain rfl;have he := zbv hmod hG1.len hG1.sub hc;rw [he] at hS;refine ⟨.inr rfl, _, zn, ⟨b, by omega, hS.g.1, ?_, hS.g.2.2⟩, x0.trans hS.old.ext⟩;have hrl := z0j hst;rw [List.length_map, hrl];simp [zb, *]
end Go.Proofs.Ytjgbcpagfghfnaa

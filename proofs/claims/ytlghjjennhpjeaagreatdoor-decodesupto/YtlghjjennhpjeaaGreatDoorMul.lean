/-
  The functions that are run alone ahead of the fork of Columns and behind its join: their code is tame.
-/
import Derived.Test.YtlghjjennhpjeaaGreatDoorLfL
import Derived.Test.YtlghjjennhpjeaaGreatDoorProg
import Derived.KernelRfl
import Derived.Conc.CompanyMem
import Derived.Test.YtlghjjennhpjeaaGreatDoorGhD
import Derived.Below
import Derived.Laws.World
import Derived.WalkKit
import Derived.WalkSpells
import Derived.WalkLawsBesides
namespace Go.Proofs.YtlghjjennhpjeaaGreatDoor
open Go.Lf

def tameL : List FuncId := [83, 116, 138, 7, 18, 64, 62, 32, 16, 39, 40, 65, 36, 63, 38, 87, 117, 74, 75, 93, 76, 96, 95, 110, 124, 137, 94, 123]
def tame (f : FuncId) : Bool := tameL.contains f

noncomputable def goodOne (f : FuncId) : Bool := match Tryz.prog.funcs[f]? with
  | none => false
  | some fn => !(fn.name == "runtime.NumGoroutine") && match fn.body with
    | none => false
    | some c => okCode Tryz.prog tame c
theorem goodL : tameL.all goodOne = true := by kernel_rfl
theorem goodF : GoodF Tryz.prog tame := by
  intro f hf
  have h := List.all_eq_true.1 goodL f (by simpa [tame] using hf)
  unfold goodOne at h
  split at h
  · cases h
  · rename_i fn hfn
    rw [Bool.and_eq_true] at h
    obtain ⟨h1, h2⟩ := h
    split at h2
    · cases h2
    · rename_i c hc
      exact .inl ⟨fn, c, [], hfn, by simpa using h1, hc, h2, fun x hx => by simp at hx⟩
end Go.Proofs.YtlghjjennhpjeaaGreatDoor

/-
  Bytes as a field, in plain numbers: multiplying as the program and as the document do it, that they agree, and that it is a field.
-/
namespace Go.Proofs.YtlghjjennhpjeaaGreatDoor

/-- times x -/
def tx (a : Nat) : Nat := if 128 ≤ a then (2 * a % 256) ^^^ 29 else 2 * a

/-- the program's rounds -/
def mulN : Nat → Nat → Nat → Nat → Nat
  | 0, p, _, _ => p
  | n + 1, p, a, b => mulN n (if b % 2 = 1 then p ^^^ a else p) (tx a) (b / 2)
def mul (a b : Nat) : Nat := mulN 8 0 a b

theorem tx_eq : ∀ a : Fin 256, tx a.val = (2 * a.val) ^^^ (285 * (a.val / 128)) := by decide +kernel
theorem tx_lt256 : ∀ a : Fin 256, tx a.val < 256 := by decide +kernel
theorem tx_lt {a : Nat} (h : a < 256) : tx a < 256 := tx_lt256 ⟨a, h⟩
theorem xor_lt {a b : Nat} (ha : a < 256) (hb : b < 256) : a ^^^ b < 256 := Nat.xor_lt_two_pow (n := 8) ha hb

theorem tx_xor {a b : Nat} (ha : a < 256) (hb : b < 256) : tx (a ^^^ b) = tx a ^^^ tx b := by
  have h1 := tx_eq ⟨a ^^^ b, xor_lt ha hb⟩
  have h2 := tx_eq ⟨a, ha⟩
  have h3 := tx_eq ⟨b, hb⟩
  simp only at h1 h2 h3
  rw [h1, h2, h3]
  have e1 : 2 * (a ^^^ b) = (2 * a) ^^^ (2 * b) := by
    have := Nat.shiftLeft_xor_distrib (a := a) (b := b) (i := 1)
    simpa [Nat.shiftLeft_eq, Nat.mul_comm] using this
  have e2 : (a ^^^ b) / 128 = (a / 128) ^^^ (b / 128) := by
    have := Nat.shiftRight_xor_distrib (a := a) (b := b) (i := 7)
    simpa [Nat.shiftRight_eq_div_pow] using this
  have e3 : ∀ p q : Nat, p < 2 → q < 2 → 285 * (p ^^^ q) = (285 * p) ^^^ (285 * q) := by
    intro p q hp hq
    have : p = 0 ∨ p = 1 := by omega
    have : q = 0 ∨ q = 1 := by omega
    rcases ‹p = 0 ∨ p = 1› with rfl | rfl <;> rcases ‹q = 0 ∨ q = 1› with rfl | rfl <;> rfl
  rw [e1, e2, e3 _ _ (by omega) (by omega)]
  rw [Nat.xor_assoc, Nat.xor_assoc]
  congr 1
  rw [← Nat.xor_assoc, Nat.xor_comm (2 * b), Nat.xor_assoc]

theorem xor4 (a b c d : Nat) : (a ^^^ b) ^^^ (c ^^^ d) = (a ^^^ c) ^^^ (b ^^^ d) := by
  rw [Nat.xor_assoc, Nat.xor_assoc]; congr 1
  rw [← Nat.xor_assoc, Nat.xor_comm b, Nat.xor_assoc]

theorem tx_zero : tx 0 = 0 := rfl

theorem mulN_lt : ∀ (n p a b : Nat), p < 256 → a < 256 → mulN n p a b < 256
  | 0, _, _, _, hp, _ => hp
  | n + 1, p, a, b, hp, ha => by
    rw [mulN]
    refine mulN_lt n _ _ _ ?_ (tx_lt ha)
    split
    · exact xor_lt hp ha
    · exact hp
theorem mul_lt {a b : Nat} (ha : a < 256) : mul a b < 256 := mulN_lt 8 0 a b (by omega) ha

theorem mulN_xor_left : ∀ (n p q a c b : Nat), a < 256 → c < 256 → mulN n (p ^^^ q) (a ^^^ c) b = mulN n p a b ^^^ mulN n q c b
  | 0, _, _, _, _, _, _, _ => rfl
  | n + 1, p, q, a, c, b, ha, hc => by
    rw [mulN, mulN, mulN, tx_xor ha hc]
    split
    · rw [xor4, mulN_xor_left n _ _ _ _ _ (tx_lt ha) (tx_lt hc)]
    · rw [mulN_xor_left n _ _ _ _ _ (tx_lt ha) (tx_lt hc)]

theorem mul_xor_left {a c : Nat} (b : Nat) (ha : a < 256) (hc : c < 256) : mul (a ^^^ c) b = mul a b ^^^ mul c b := by
  have := mulN_xor_left 8 0 0 a c b ha hc
  simpa [mul] using this

theorem xor_mod2 (b d : Nat) : (b ^^^ d) % 2 = if b % 2 = d % 2 then 0 else 1 := by
  have h : (b ^^^ d) % 2 ^ 1 = (b % 2 ^ 1) ^^^ (d % 2 ^ 1) := Nat.xor_mod_two_pow
  rw [Nat.pow_one] at h
  rw [h]
  have h1 : b % 2 = 0 ∨ b % 2 = 1 := by omega
  have h2 : d % 2 = 0 ∨ d % 2 = 1 := by omega
  rcases h1 with h1 | h1 <;> rcases h2 with h2 | h2 <;> rw [h1, h2] <;> rfl

theorem xor_div2 (b d : Nat) : (b ^^^ d) / 2 = (b / 2) ^^^ (d / 2) := by
  have := Nat.shiftRight_xor_distrib (a := b) (b := d) (i := 1)
  simpa [Nat.shiftRight_eq_div_pow] using this

theorem mulN_xor_right : ∀ (n p q a b d : Nat), a < 256 → mulN n (p ^^^ q) a (b ^^^ d) = mulN n p a b ^^^ mulN n q a d
  | 0, _, _, _, _, _, _ => rfl
  | n + 1, p, q, a, b, d, ha => by
    rw [mulN, mulN, mulN, xor_div2, xor_mod2]
    rw [← mulN_xor_right n _ _ _ _ _ (tx_lt ha)]
    congr 1
    have h1 : b % 2 = 0 ∨ b % 2 = 1 := by omega
    have h2 : d % 2 = 0 ∨ d % 2 = 1 := by omega
    rcases h1 with h1 | h1 <;> rcases h2 with h2 | h2 <;> simp [h1, h2]
    · rw [Nat.xor_assoc]
    · rw [Nat.xor_assoc, Nat.xor_assoc, Nat.xor_comm a]
    · rw [xor4, Nat.xor_self, Nat.xor_zero]

theorem mul_xor_right {a : Nat} (b d : Nat) (ha : a < 256) : mul a (b ^^^ d) = mul a b ^^^ mul a d := by
  have := mulN_xor_right 8 0 0 a b d ha
  simpa [mul] using this

/-- A function on bytes that keeps exclusive or. -/
def Lin (f : Nat → Nat) : Prop := ∀ a b, a < 256 → b < 256 → f (a ^^^ b) = f a ^^^ f b

theorem bits8 : ∀ a : Fin 256, a.val = (((((((a.val / 128 % 2 * 128) ^^^ (a.val / 64 % 2 * 64)) ^^^ (a.val / 32 % 2 * 32)) ^^^ (a.val / 16 % 2 * 16)) ^^^ (a.val / 8 % 2 * 8)) ^^^ (a.val / 4 % 2 * 4)) ^^^ (a.val / 2 % 2 * 2)) ^^^ (a.val % 2 * 1) := by
  decide +kernel

theorem Lin.zero {f : Nat → Nat} (h : Lin f) : f 0 = 0 := by
  have := h 0 0 (by omega) (by omega)
  rw [Nat.xor_self, Nat.xor_self] at this
  exact this

theorem lin_bit {f g : Nat → Nat} (hf : Lin f) (hg : Lin g) (x m : Nat) (hx : x < 2) (h : f m = g m) : f (x * m) = g (x * m) := by
  have : x = 0 ∨ x = 1 := by omega
  rcases this with rfl | rfl
  · rw [Nat.zero_mul, hf.zero, hg.zero]
  · rw [Nat.one_mul, h]

/-- Two such functions are one where they agree on the eight bits. -/
theorem Lin.ext {f g : Nat → Nat} (hf : Lin f) (hg : Lin g) (h : ∀ i : Fin 8, f (2 ^ i.val) = g (2 ^ i.val)) (a : Nat) (ha : a < 256) : f a = g a := by
  have e := bits8 ⟨a, ha⟩
  simp only at e
  have x7 : a / 128 % 2 * 128 < 256 := by omega
  have x6 : a / 64 % 2 * 64 < 256 := by omega
  have x5 : a / 32 % 2 * 32 < 256 := by omega
  have x4 : a / 16 % 2 * 16 < 256 := by omega
  have x3 : a / 8 % 2 * 8 < 256 := by omega
  have x2 : a / 4 % 2 * 4 < 256 := by omega
  have x1 : a / 2 % 2 * 2 < 256 := by omega
  have x0 : a % 2 * 1 < 256 := by omega
  have y6 := xor_lt x7 x6
  have y5 := xor_lt y6 x5
  have y4 := xor_lt y5 x4
  have y3 := xor_lt y4 x3
  have y2 := xor_lt y3 x2
  have y1 := xor_lt y2 x1
  rw [e, hf _ _ y1 x0, hg _ _ y1 x0, hf _ _ y2 x1, hg _ _ y2 x1, hf _ _ y3 x2, hg _ _ y3 x2, hf _ _ y4 x3, hg _ _ y4 x3,
    hf _ _ y5 x4, hg _ _ y5 x4, hf _ _ y6 x5, hg _ _ y6 x5, hf _ _ x7 x6, hg _ _ x7 x6,
    lin_bit hf hg _ 128 (by omega) (h 7), lin_bit hf hg _ 64 (by omega) (h 6), lin_bit hf hg _ 32 (by omega) (h 5), lin_bit hf hg _ 16 (by omega) (h 4),
    lin_bit hf hg _ 8 (by omega) (h 3), lin_bit hf hg _ 4 (by omega) (h 2), lin_bit hf hg _ 2 (by omega) (h 1), lin_bit hf hg _ 1 (by omega) (h 0)]

theorem lin_mul_left (b : Nat) : Lin (fun a => mul a b) := fun _ _ ha hc => mul_xor_left b ha hc
theorem lin_mul_right {a : Nat} (ha : a < 256) : Lin (fun b => mul a b) := fun _ _ _ _ => mul_xor_right _ _ ha

theorem mul_one {a : Nat} (ha : a < 256) : mul a 1 = a :=
  Lin.ext (f := fun a => mul a 1) (g := fun a => a) (lin_mul_left 1) (fun _ _ _ _ => rfl) (by decide +kernel) a ha
theorem mul_zero (a : Nat) : mul a 0 = 0 := by
  simp [mul, mulN]
theorem zero_mul {a : Nat} : mul 0 a = 0 := (lin_mul_left a).zero

theorem pow_lt (i : Fin 8) : 2 ^ i.val < 256 := by
  revert i; decide

theorem comm88 : ∀ i j : Fin 8, mul (2 ^ i.val) (2 ^ j.val) = mul (2 ^ j.val) (2 ^ i.val) := by decide +kernel
theorem mul_comm {a b : Nat} (ha : a < 256) (hb : b < 256) : mul a b = mul b a := by
  refine Lin.ext (f := fun a => mul a b) (g := fun a => mul b a) (lin_mul_left b) (lin_mul_right hb) (fun i => ?_) a ha
  exact Lin.ext (f := fun b => mul (2 ^ i.val) b) (g := fun b => mul b (2 ^ i.val)) (lin_mul_right (pow_lt i)) (lin_mul_left _) (fun j => comm88 i j) b hb

theorem assoc888 : ∀ i j k : Fin 8, mul (2 ^ i.val) (mul (2 ^ j.val) (2 ^ k.val)) = mul (mul (2 ^ i.val) (2 ^ j.val)) (2 ^ k.val) := by decide +kernel
theorem mul_assoc {a b c : Nat} (ha : a < 256) (hb : b < 256) (hc : c < 256) : mul a (mul b c) = mul (mul a b) c := by
  refine Lin.ext (f := fun a => mul a (mul b c)) (g := fun a => mul (mul a b) c) (lin_mul_left _) ?_ (fun i => ?_) a ha
  · intro x y hx hy; show mul (mul (x ^^^ y) b) c = _; rw [mul_xor_left b hx hy, mul_xor_left c (mul_lt hx) (mul_lt hy)]
  refine Lin.ext (f := fun b => mul (2 ^ i.val) (mul b c)) (g := fun b => mul (mul (2 ^ i.val) b) c) ?_ ?_ (fun j => ?_) b hb
  · intro x y hx hy; show mul _ (mul (x ^^^ y) c) = _; rw [mul_xor_left c hx hy, mul_xor_right _ _ (pow_lt i)]
  · intro x y hx hy; show mul (mul _ (x ^^^ y)) c = _; rw [mul_xor_right _ _ (pow_lt i), mul_xor_left c (mul_lt (pow_lt i)) (mul_lt (pow_lt i))]
  refine Lin.ext (f := fun c => mul (2 ^ i.val) (mul (2 ^ j.val) c)) (g := fun c => mul (mul (2 ^ i.val) (2 ^ j.val)) c) ?_ ?_ (fun k => assoc888 i j k) c hc
  · intro x y hx hy; show mul _ (mul _ (x ^^^ y)) = _; rw [mul_xor_right _ _ (pow_lt j), mul_xor_right _ _ (pow_lt i)]
  · intro x y hx hy; show mul (mul _ _) (x ^^^ y) = _; rw [mul_xor_right _ _ (mul_lt (pow_lt i))]

/-- the program's inverse: seven rounds -/
def invN : Nat → Nat → Nat → Nat
  | 0, _, v => v
  | n + 1, p, v => invN n (mul p p) (mul v (mul p p))
def inv (a : Nat) : Nat := invN 7 a 1

theorem inv_lt256 : ∀ a : Fin 256, inv a.val < 256 := by decide +kernel
theorem inv_lt {a : Nat} (ha : a < 256) : inv a < 256 := inv_lt256 ⟨a, ha⟩
theorem mul_inv256 : ∀ a : Fin 256, a.val = 0 ∨ mul a.val (inv a.val) = 1 := by decide +kernel
theorem mul_inv {a : Nat} (ha : a < 256) (h0 : a ≠ 0) : mul a (inv a) = 1 := (mul_inv256 ⟨a, ha⟩).resolve_left h0
theorem inv_zero : inv 0 = 0 := by decide +kernel
theorem inv_unique {a b : Nat} (ha : a < 256) (hb : b < 256) (h : mul a b = 1) : b = inv a := by
  have h0 : a ≠ 0 := by
    rintro rfl
    rw [zero_mul] at h
    exact absurd h (by decide)
  have h1 := mul_inv ha h0
  have hi := inv_lt ha
  have e : mul (inv a) (mul a b) = mul (mul (inv a) a) b := mul_assoc hi ha hb
  rw [h, mul_one hi, mul_comm hi ha, h1, mul_comm (by omega) hb, mul_one hb] at e
  exact e.symm
theorem inv_ne_zero {a : Nat} (ha : a < 256) (h0 : a ≠ 0) : inv a ≠ 0 := by
  intro h
  have := mul_inv ha h0
  rw [h, mul_zero] at this
  exact absurd this (by decide)
theorem inv_inv {a : Nat} (ha : a < 256) : inv (inv a) = a := by
  by_cases h0 : a = 0
  · subst h0; rw [inv_zero, inv_zero]
  · have hi := inv_lt ha
    exact (inv_unique hi ha (by rw [mul_comm hi ha]; exact mul_inv ha h0)).symm

/-- the document's rounds: polynomials multiplied .. -/
def refP (a b : Nat) : Nat → Nat
  | 0 => 0
  | k + 1 => if b / 2 ^ k % 2 = 1 then refP a b k ^^^ (a * 2 ^ k) else refP a b k
/-- .. then the remainder: n rounds, from the bit 7 + n on -/
def refM : Nat → Nat → Nat
  | 0, p => p
  | n + 1, p => refM n (if p / 2 ^ (8 + n) % 2 = 1 then p ^^^ (285 * 2 ^ n) else p)
def refMul (a b : Nat) : Nat := refM 7 (refP a b 8) % 256

theorem xor_shr (x y k : Nat) : (x ^^^ y) / 2 ^ k = (x / 2 ^ k) ^^^ (y / 2 ^ k) := by
  have := Nat.shiftRight_xor_distrib (a := x) (b := y) (i := k)
  simpa [Nat.shiftRight_eq_div_pow] using this
theorem xor_shl (x y k : Nat) : (x ^^^ y) * 2 ^ k = (x * 2 ^ k) ^^^ (y * 2 ^ k) := by
  have := Nat.shiftLeft_xor_distrib (a := x) (b := y) (i := k)
  simpa [Nat.shiftLeft_eq] using this

theorem refP_lt (a b : Nat) (ha : a < 256) : ∀ k, refP a b k < 2 ^ (8 + k)
  | 0 => by simp [refP]
  | k + 1 => by
    have ih := refP_lt a b ha k
    have e : 2 ^ (8 + (k + 1)) = 2 * 2 ^ (8 + k) := by rw [← Nat.add_assoc, Nat.pow_succ]; omega
    rw [refP]
    split
    · refine Nat.xor_lt_two_pow (by omega) ?_
      have : a * 2 ^ k < 256 * 2 ^ k := Nat.mul_lt_mul_of_pos_right ha (Nat.two_pow_pos k)
      have : 256 * 2 ^ k = 2 ^ (8 + k) := by rw [Nat.pow_add]
      omega
    · omega

theorem refP_xor_right (a b d : Nat) : ∀ k, refP a (b ^^^ d) k = refP a b k ^^^ refP a d k
  | 0 => by simp [refP]
  | k + 1 => by
    rw [refP, refP, refP, refP_xor_right a b d k, xor_shr, xor_mod2]
    have h1 : b / 2 ^ k % 2 = 0 ∨ b / 2 ^ k % 2 = 1 := by omega
    have h2 : d / 2 ^ k % 2 = 0 ∨ d / 2 ^ k % 2 = 1 := by omega
    rcases h1 with h1 | h1 <;> rcases h2 with h2 | h2 <;> simp [h1, h2]
    · rw [Nat.xor_assoc]
    · rw [Nat.xor_assoc, Nat.xor_assoc]; congr 1; rw [Nat.xor_comm]
    · rw [xor4, Nat.xor_self, Nat.xor_zero]
theorem refP_xor_left (a c b : Nat) : ∀ k, refP (a ^^^ c) b k = refP a b k ^^^ refP c b k
  | 0 => by simp [refP]
  | k + 1 => by
    rw [refP, refP, refP, refP_xor_left a c b k]
    split
    · rw [xor_shl, xor4]
    · rfl
theorem refM_xor : ∀ (n p q : Nat), refM n (p ^^^ q) = refM n p ^^^ refM n q
  | 0, _, _ => rfl
  | n + 1, p, q => by
    rw [refM, refM, refM, ← refM_xor n, xor_shr, xor_mod2]
    congr 1
    have h1 : p / 2 ^ (8 + n) % 2 = 0 ∨ p / 2 ^ (8 + n) % 2 = 1 := by omega
    have h2 : q / 2 ^ (8 + n) % 2 = 0 ∨ q / 2 ^ (8 + n) % 2 = 1 := by omega
    rcases h1 with h1 | h1 <;> rcases h2 with h2 | h2 <;> simp [h1, h2]
    · rw [Nat.xor_assoc]
    · rw [Nat.xor_assoc, Nat.xor_assoc]; congr 1; rw [Nat.xor_comm]
    · rw [xor4, Nat.xor_self, Nat.xor_zero]
theorem xor_mod256 (x y : Nat) : (x ^^^ y) % 256 = (x % 256) ^^^ (y % 256) := Nat.xor_mod_two_pow (n := 8)
theorem refMul_xor_right (a b d : Nat) : refMul a (b ^^^ d) = refMul a b ^^^ refMul a d := by
  simp only [refMul, refP_xor_right, refM_xor, xor_mod256]
theorem refMul_xor_left (a c b : Nat) : refMul (a ^^^ c) b = refMul a b ^^^ refMul c b := by
  simp only [refMul, refP_xor_left, refM_xor, xor_mod256]
theorem ref88 : ∀ i j : Fin 8, refMul (2 ^ i.val) (2 ^ j.val) = mul (2 ^ i.val) (2 ^ j.val) := by decide +kernel
/-- The document's multiplying is the program's. -/
theorem refMul_eq {a b : Nat} (ha : a < 256) (hb : b < 256) : refMul a b = mul a b := by
  refine Lin.ext (f := fun a => refMul a b) (g := fun a => mul a b) (fun _ _ _ _ => refMul_xor_left _ _ _) (lin_mul_left b) (fun i => ?_) a ha
  exact Lin.ext (f := fun b => refMul (2 ^ i.val) b) (g := fun b => mul (2 ^ i.val) b) (fun _ _ _ _ => refMul_xor_right _ _ _) (lin_mul_right (pow_lt i)) (fun j => ref88 i j) b hb

theorem odd_lt2 {q : Nat} (h : q % 2 = 1) (h2 : q < 2) : q = 1 := by omega
theorem even_lt2 {q : Nat} (h : ¬ q % 2 = 1) (h2 : q < 2) : q = 0 := by omega
theorem refM_lt : ∀ n p, p < 2 ^ (8 + n) → refM n p < 256
  | 0, _, h => by simpa [refM] using h
  | n + 1, p, h => by
    rw [refM]
    apply refM_lt n
    have e : 2 ^ (8 + (n + 1)) = 2 * 2 ^ (8 + n) := by rw [← Nat.add_assoc, Nat.pow_succ]; omega
    have hp := Nat.two_pow_pos (8 + n)
    split
    · rename_i h1
      have e2 : 2 ^ (8 + n) = 256 * 2 ^ n := by rw [Nat.pow_add]
      have hd : p / 2 ^ (8 + n) = 1 := by
        have h2 : p / 2 ^ (8 + n) < 2 := by rw [Nat.div_lt_iff_lt_mul hp]; omega
        exact odd_lt2 h1 h2
      have h3 : (p ^^^ (285 * 2 ^ n)) / 2 ^ (8 + n) = 0 := by
        rw [xor_shr, hd]
        have : 285 * 2 ^ n / 2 ^ (8 + n) = 1 := by
          rw [e2, Nat.mul_div_mul_right _ _ (Nat.two_pow_pos n)]
        rw [this]; rfl
      have := (Nat.div_eq_zero_iff (a := p ^^^ (285 * 2 ^ n)) (b := 2 ^ (8 + n))).mp h3
      omega
    · have hd : p / 2 ^ (8 + n) < 2 := by rw [Nat.div_lt_iff_lt_mul hp]; omega
      have h3 : p / 2 ^ (8 + n) = 0 := even_lt2 ‹_› hd
      have := (Nat.div_eq_zero_iff (a := p) (b := 2 ^ (8 + n))).mp h3
      omega

end Go.Proofs.YtlghjjennhpjeaaGreatDoor

/-
  In company: a region that draws its order, some of whose operations are calls of Go functions, and whose last operation may turn what the others have read.
-/
namespace Go.Gh
open Go.Conc

section
variable {P : Program} {main : Bool} {R : World → World → Prop} {D : World → World → Array Event → Prop} {fn : FuncId} {ops : Array Oper} {Q : Exit → Act → World → Prop} {S : World → Prop} {nf lst : Nat}

/-- Operation number i comes up: it yields a value or nothing, or it is a call by its contract (within nf steps). -/
def OpX (P : Program) (main : Bool) (R : World → World → Prop) (D : World → World → Array Event → Prop) (fn : FuncId) (ops : Array Oper) (nf i : Nat) (K : Act → World → Prop) (a : Act) (w : World) : Prop :=
  ∃ o, ops[i]? = some o ∧
    ((Region.wanted o (yielded ops a.tmps) = true ∧ ∀ w₁, R w w₁ → uponK o a (fun a' w' => D w₁ w' (listed P fn a o w₁) ∧ K a' w') ((execOp a.eval o).run P w₁)) ∨
     (Region.wanted o (yielded ops a.tmps) = true ∧ ∃ f args ats Post, o.op = .call { callee := .value (.func f), args, argTypes := ats } ∧ CallsC P main R D f (args.map a.eval) nf w Post ∧ ∀ v w', Post v w' → K (a.put o.dst v) w') ∨
     (Region.wanted o (yielded ops a.tmps) = false ∧ K (a.put o.dst undef) w))

theorem OpX.mono {i : Nat} {K K' : Act → World → Prop} {a : Act} {w : World} (hK : ∀ a w, K a w → K' a w) (h : OpX P main R D fn ops nf i K a w) : OpX P main R D fn ops nf i K' a w := by
  obtain ⟨o, ho, h⟩ := h
  refine ⟨o, ho, ?_⟩
  rcases h with ⟨hw, h⟩ | ⟨hw, f, args, ats, Post, h1, h2, h3⟩ | ⟨hw, h⟩
  · exact .inl ⟨hw, fun w₁ r => uponK_mono (fun _ _ x => ⟨x.1, hK _ _ x.2⟩) (h w₁ r)⟩
  · exact .inr (.inl ⟨hw, f, args, ats, Post, h1, h2, fun v w' p => hK _ _ (h3 v w' p)⟩)
  · exact .inr (.inr ⟨hw, hK _ _ h⟩)

/-- Whatever order is picked from here on; behind every operation but the last one, S holds. -/
def AnyX (P : Program) (main : Bool) (R : World → World → Prop) (D : World → World → Array Event → Prop) (fn : FuncId) (ops : Array Oper) (nf : Nat) (Q : Exit → Act → World → Prop) (S : World → Prop) (lst : Nat) : Nat → Array Bool → Act → World → Prop
  | 0, l, a, w => Region.ready .any ops l = [] ∧ Q .normal a w
  | k + 1, l, a, w => (Region.ready .any ops l = [] → Q .normal a w) ∧
    ∀ i ∈ Region.ready .any ops l, OpX P main R D fn ops nf i (fun a' w' => (i ≠ lst → S w') ∧ AnyX P main R D fn ops nf Q S lst k (l.setIfInBounds i true) a' w') a w

theorem opsC_of_opX (T : Terms R D) {i : Nat} {rest : List Nat} {m : Nat} {a : Act} {w : World} (h : OpX P main R D fn ops nf i (fun a' w' => OpsC P main R D fn ops rest m Q a' w') a w) : OpsC P main R D fn ops (i :: rest) (m + nf + 3) Q a w := by
  obtain ⟨o, ho, h⟩ := h
  rcases h with ⟨hw, h⟩ | ⟨hw, f, args, ats, Post, h1, h2, h3⟩ | ⟨hw, h⟩
  · exact opsC_more (opsC_cons ho hw h) (by omega)
  · exact opsC_call T ho hw h1 h2 h3
  · exact opsC_more (opsC_unwanted T ho hw h) (by omega)

/-- It serves every order that the tape can pick. -/
theorem anyX_sound (T : Terms R D) : ∀ (k t : Nat) (l : Array Bool) (a : Act) (w : World), AnyX P main R D fn ops nf Q S lst k l a w → OpsC P main R D fn ops (Region.linearise.go .any ops k t l []) (k * (nf + 3) + 1) Q a w
  | 0, t, l, a, w, h => by simpa [Region.linearise.go] using opsC_nil T h.2
  | k + 1, t, l, a, w, h => by
    obtain ⟨h0, h1⟩ := h
    have e : (k + 1) * (nf + 3) + 1 = (k * (nf + 3) + 1) + nf + 3 := by rw [Nat.succ_mul]; omega
    simp only [Region.linearise.go]
    change OpsC P main R D fn ops (match (Region.ready .any ops l)[t % (Region.ready .any ops l).length]? with
      | some i => Region.linearise.go .any ops k (t / (Region.ready .any ops l).length) (l.setIfInBounds i true) [i]
      | none => [].reverse) ((k + 1) * (nf + 3) + 1) Q a w
    cases hi : (Region.ready .any ops l)[t % (Region.ready .any ops l).length]? with
    | none =>
      have hnil : Region.ready .any ops l = [] := by
        cases hr : Region.ready .any ops l with
        | nil => rfl
        | cons x xs =>
          rw [hr, List.getElem?_eq_none_iff] at hi
          have := Nat.mod_lt t (show 0 < (x :: xs).length by simp)
          omega
      exact opsC_more (by simpa using opsC_nil T (h0 hnil)) (by omega)
    | some i =>
      simp only []
      rw [linearise_go_acc, List.reverse_singleton, List.singleton_append, e]
      exact opsC_of_opX T (OpX.mono (fun a' w' x => anyX_sound T k _ _ a' w' x.2) (h1 i (List.mem_of_getElem? hi)))

/-- An operation that yields v in every world that meets S, is apart from operation j, and j's step: they change places. -/
theorem OpX.swap {j : Nat} {oi oj : Oper} {v : Value} (hj : ops[j]? = some oj) (hap : oi.apart ops oj = true) (hsi : ∀ cs b, oi.op ≠ .select cs b) (hsj : ∀ cs b, oj.op ≠ .select cs b) {K : Act → World → Prop} {a : Act} {w : World}
    (hy : YieldsIfC P D fn ops S oi v a) (h : OpX P main R D fn ops nf j K (a.put oi.dst v) w) : OpX P main R D fn ops nf j (fun a' w' => YieldsIfC P D fn ops S oi v a' ∧ K (a'.put oi.dst v) w') a w := by
  obtain ⟨h1, h2, h3⟩ := Oper.apart_spec hap
  have keep : ∀ u, YieldsIfC P D fn ops S oi v (a.put oj.dst u) := fun u => hy.of_same (execOp_put oi hsi a oj.dst u h3) (wanted_put oi a oj.dst u h3)
  obtain ⟨o, ho, h⟩ := h
  obtain rfl : oj = o := by rw [hj] at ho; exact Option.some.inj ho
  refine ⟨oj, hj, ?_⟩
  rw [wanted_put oj a oi.dst v h1] at h
  have hex : execOp (a.put oi.dst v).eval oj = execOp a.eval oj := execOp_put oj hsj a oi.dst v h1
  rcases h with ⟨hw, h⟩ | ⟨hw, f, args, ats, Post, e1, e2, e3⟩ | ⟨hw, h⟩
  · refine .inl ⟨hw, fun w₁ r => ?_⟩
    have h := h w₁ r
    unfold listed at h ⊢
    rw [hex] at h
    generalize (execOp a.eval oj).run P w₁ = res at h ⊢
    cases res with
    | halt x w' => simp only [uponK] at h
    | ok x w' =>
      cases x <;> simp only [uponK] at h ⊢
      · rename_i u; exact ⟨h.1, keep u, by rw [← Act.put_comm a v u h2]; exact h.2⟩
      · exact ⟨h.1, keep _, by rw [← Act.put_comm a v undef h2]; exact h.2⟩
  · refine .inr (.inl ⟨hw, f, args, ats, Post, e1, ?_, fun u w' p => ⟨keep u, by rw [← Act.put_comm a v u h2]; exact e3 u w' p⟩⟩)
    have ea : args.map (a.put oi.dst v).eval = args.map a.eval := by
      refine Array.map_congr_left fun x hx => Act.eval_put fun d hd hxd => h1 d hd ?_
      subst hxd
      refine List.mem_append_left _ (List.mem_filterMap.2 ⟨.tmp d, ?_, rfl⟩)
      rw [e1]
      simp [Op.operands, Call.operands, hx]
    rw [ea] at e2
    exact e2
  · exact .inr (.inr ⟨hw, keep _, by rw [← Act.put_comm a v undef h2]; exact h⟩)

theorem YieldsIfC.opX (hSR : ∀ x y, S x → R x y → S y) {i : Nat} {o : Oper} {v : Value} {a : Act} (hi : ops[i]? = some o) (hy : YieldsIfC P D fn ops S o v a) {K : Act → World → Prop} (hK : ∀ a x y, K a x → R x y → K a y) {w : World} (hS : S w) (h : K (a.put o.dst v) w) :
    OpX P main R D fn ops nf i K a w := by
  refine ⟨o, hi, ?_⟩
  rcases hy with ⟨hw, hv⟩ | ⟨hw, rfl⟩
  · refine .inl ⟨hw, fun w₁ r => ?_⟩
    rw [(hv w₁ (hSR _ _ hS r)).1]
    exact ⟨(hv w₁ (hSR _ _ hS r)).2, hK _ _ _ h r⟩
  · exact .inr (.inr ⟨hw, h⟩)

theorem CallsC.rely (T : Terms R D) {f : FuncId} {args : Array Value} {m : Nat} {w w₁ : World} {Post : Value → World → Prop} (h : CallsC P main R D f args m w Post) (r : R w w₁) : CallsC P main R D f args m w₁ Post := by
  obtain ⟨g, c, h1, h2, h3, h4⟩ := h
  exact ⟨g, c, h1, h2, h3, wpC_rely T h4 r⟩

theorem AnyX.rely (T : Terms R D) (hSR : ∀ x y, S x → R x y → S y) (hQR : ∀ a x y, Q .normal a x → R x y → Q .normal a y) : ∀ (k : Nat) (l : Array Bool) (a : Act) (w w₁ : World), AnyX P main R D fn ops nf Q S lst k l a w → R w w₁ → AnyX P main R D fn ops nf Q S lst k l a w₁
  | 0, _, _, _, _, h, r => ⟨h.1, hQR _ _ _ h.2 r⟩
  | k + 1, l, a, w, w₁, h, r => ⟨fun e => hQR _ _ _ (h.1 e) r, fun i hi => by
      obtain ⟨o, ho, h⟩ := h.2 i hi
      refine ⟨o, ho, ?_⟩
      rcases h with ⟨hw, h⟩ | ⟨hw, f, args, ats, Post, e1, e2, e3⟩ | ⟨hw, h⟩
      · exact .inl ⟨hw, fun w₂ r₂ => h w₂ (T.trans _ _ _ r r₂)⟩
      · exact .inr (.inl ⟨hw, f, args, ats, Post, e1, CallsC.rely T e2 r, e3⟩)
      · exact .inr (.inr ⟨hw, fun hne => hSR _ _ (h.1 hne) r, AnyX.rely T hSR hQR k _ _ _ _ h.2 r⟩)⟩

/-- Whatever has come up, what it waits for has come up too. -/
def DC (ops : Array Oper) (l : Array Bool) : Prop := ∀ j o, ops[j]? = some o → l.getD j false = true → ∀ e ∈ o.after, Region.binds .any e = true → l.getD e.on false = true
theorem DC.set {l : Array Bool} (h : DC ops l) {j : Nat} (hj : j ∈ Region.ready .any ops l) : DC ops (l.setIfInBounds j true) := by
  intro m o ho hm e he hb
  by_cases hjm : j = m
  · subst hjm
    obtain ⟨_, o', ho', hall⟩ := mem_ready.1 hj
    obtain rfl : o = o' := by rw [ho] at ho'; exact Option.some.inj ho'
    exact getD_set_true (hall e he hb)
  · rw [getD_set_ne false hjm] at hm
    exact getD_set_true (h m o ho hm e he hb)
/-- Operation j waits, at one remove or more, for operation i. -/
def waitsFor (ops : Array Oper) : Nat → Nat → Nat → Bool
  | 0, _, _ => false
  | n + 1, j, i => match ops[j]? with
    | none => false
    | some o => o.after.any fun e => Region.binds .any e && (e.on == i || waitsFor ops n e.on i)
theorem waits_listed {l : Array Bool} (h : DC ops l) {i : Nat} : ∀ (n j : Nat) (o : Oper), ops[j]? = some o → (∀ e ∈ o.after, Region.binds .any e = true → l.getD e.on false = true) → waitsFor ops n j i = true → l.getD i false = true
  | 0, _, _, _, _, hw => by simp [waitsFor] at hw
  | n + 1, j, o, ho, hd, hw => by
    simp only [waitsFor, ho, Array.any_eq_true] at hw
    obtain ⟨x, hx, hw⟩ := hw
    simp only [Bool.and_eq_true, Bool.or_eq_true, beq_iff_eq] at hw
    have hon := hd _ (Array.getElem_mem hx) hw.1
    rcases hw.2 with e | e
    · rw [← e]; exact hon
    · cases ho' : ops[o.after[x].on]? with
      | none =>
        cases n with
        | zero => simp [waitsFor] at e
        | succ n => simp [waitsFor, ho'] at e
      | some o' => exact waits_listed h n _ o' ho' (h _ o' ho' hon) e

/-- An operation that may come up now may be taken first. -/
theorem anyX_first (T : Terms R D) (hSR : ∀ x y, S x → R x y → S y) (hQR : ∀ a x y, Q .normal a x → R x y → Q .normal a y) {i : Nat} {oi : Oper} {v : Value} (hi : ops[i]? = some oi) (hsel : ∀ (j : Nat) (o : Oper) cs b, ops[j]? = some o → o.op ≠ .select cs b) {nw : Nat} (hwt : waitsFor ops nw lst i = true) :
    ∀ (k : Nat) (l : Array Bool) (a : Act) (w : World), DC ops l → (∀ j oj, ops[j]? = some oj → j ≠ i → l.getD j true = false → (∀ e ∈ oj.after, Region.binds .any e = true → e.on ≠ i) → oi.apart ops oj = true) →
      i ∈ Region.ready .any ops l → YieldsIfC P D fn ops S oi v a → S w → AnyX P main R D fn ops nf Q S lst k (l.setIfInBounds i true) (a.put oi.dst v) w → AnyX P main R D fn ops nf Q S lst (k + 1) l a w := by
  have hK : ∀ j k l, ∀ a x y, ((j ≠ lst → S x) ∧ AnyX P main R D fn ops nf Q S lst k l a x) → R x y → ((j ≠ lst → S y) ∧ AnyX P main R D fn ops nf Q S lst k l a y) :=
    fun j k l a x y h r => ⟨fun hne => hSR _ _ (h.1 hne) r, AnyX.rely T hSR hQR k l a x y h.2 r⟩
  intro k
  induction k with
  | zero =>
    intro l a w _ _ hr hy hS H
    refine ⟨fun h => (by rw [h] at hr; cases hr), fun j hj => ?_⟩
    by_cases hji : j = i
    · subst hji; exact YieldsIfC.opX hSR hi hy (hK _ _ _) hS ⟨fun _ => hS, H⟩
    · have := ready_mono hj hji
      rw [H.1] at this
      cases this
  | succ k ih =>
    intro l a w hdc hfree hr hy hS H
    refine ⟨fun h => (by rw [h] at hr; cases hr), fun j hj => ?_⟩
    by_cases hji : j = i
    · subst hji; exact YieldsIfC.opX hSR hi hy (hK _ _ _) hS ⟨fun _ => hS, H⟩
    · have h1 := H.2 j (ready_mono hj hji)
      obtain ⟨hjun, oj, hoj, hall⟩ := mem_ready.1 hj
      have hir : i ∈ Region.ready .any ops (l.setIfInBounds j true) := ready_mono hr (Ne.symm hji)
      have hnot : ∀ e ∈ oj.after, Region.binds .any e = true → e.on ≠ i := fun e he hb heq => by
        have h1 := hall e he hb
        have h0 := (mem_ready.1 hr).1
        rw [heq] at h1
        rcases Nat.lt_or_ge i l.size with h' | h'
        · simp [h'] at h0 h1; rw [h0] at h1; cases h1
        · simp [Array.getElem?_eq_none h'] at h1
      have h2 := OpX.swap hoj (hfree j oj hoj hji hjun hnot) (fun cs b => hsel i oi cs b hi) (fun cs b => hsel j oj cs b hoj) hy h1
      have hfree' : ∀ m om, ops[m]? = some om → m ≠ i → (l.setIfInBounds j true).getD m true = false → (∀ e ∈ om.after, Region.binds .any e = true → e.on ≠ i) → oi.apart ops om = true := fun m om hm hmi hun hno => by
        refine hfree m om hm hmi ?_ hno
        by_cases hjm : j = m
        · subst hjm; exact hjun
        · rw [getD_set_ne true hjm] at hun; exact hun
      have hjl : j ≠ lst := by
        rintro rfl
        have h1 := waits_listed hdc nw j oj hoj hall hwt
        have h0 := (mem_ready.1 hr).1
        rcases Nat.lt_or_ge i l.size with h' | h'
        · simp [h'] at h0 h1; rw [h0] at h1; cases h1
        · simp [Array.getElem?_eq_none h'] at h1
      refine OpX.mono (fun a' w' h3 => ⟨fun _ => h3.2.1 hjl, ih (l.setIfInBounds j true) a' w' (hdc.set hj) hfree' hir h3.1 (h3.2.1 hjl) ?_⟩) h2
      rw [Array.setIfInBounds_comm _ _ hji]
      exact h3.2.2

/-- 'DC', to be reckoned. -/
def dcB (ops : Array Oper) (l : Array Bool) : Bool := (List.range ops.size).all fun j => !l.getD j false || match ops[j]? with
  | some o => o.after.all fun e => !Region.binds .any e || l.getD e.on false
  | none => true
theorem dcB_spec {l : Array Bool} (h : dcB ops l = true) : DC ops l := by
  intro j o ho hj e he hb
  simp only [dcB, List.all_eq_true, List.mem_range] at h
  have h1 := h j (Array.getElem?_eq_some_iff.1 ho).1
  simp only [hj, ho, Bool.not_true, Bool.false_or] at h1
  have h2 := Array.all_eq_true_iff_forall_mem.1 h1 e he
  simpa [hb] using h2

/-- Take number i first. -/
theorem anyX_take (T : Terms R D) (hSR : ∀ x y, S x → R x y → S y) (hQR : ∀ a x y, Q .normal a x → R x y → Q .normal a y) {i : Nat} {oi : Oper} {v : Value} {k : Nat} {l : Array Bool} {a : Act} {w : World} (hi : ops[i]? = some oi)
    (hs : Region.noSelect ops = true) (hf : Region.free .any ops l i = true) (hr : (Region.ready .any ops l).contains i = true) (hwt : waitsFor ops ops.size lst i = true) (hdc : dcB ops l = true)
    (hy : YieldsIfC P D fn ops S oi v a) (hS : S w) (h : AnyX P main R D fn ops nf Q S lst k (l.setIfInBounds i true) (a.put oi.dst v) w) : AnyX P main R D fn ops nf Q S lst (k + 1) l a w :=
  anyX_first T hSR hQR hi (Region.noSelect_spec hs) hwt k l a w (dcB_spec hdc) (Region.free_spec hi hf) (by simpa using hr) hy hS h

/-- One alone may come up now. -/
theorem anyX_one {i : Nat} {k : Nat} {l : Array Bool} {a : Act} {w : World} (hr : Region.ready .any ops l = [i]) (h : OpX P main R D fn ops nf i (fun a' w' => (i ≠ lst → S w') ∧ AnyX P main R D fn ops nf Q S lst k (l.setIfInBounds i true) a' w') a w) :
    AnyX P main R D fn ops nf Q S lst (k + 1) l a w :=
  ⟨fun h0 => absurd (hr.symm.trans h0) (by simp), fun j hj => by
    rw [hr] at hj
    obtain rfl : j = i := by simpa using hj
    exact h⟩

/-- All have come up. -/
theorem anyX_done {l : Array Bool} {a : Act} {w : World} (hr : Region.ready .any ops l = []) (h : Q .normal a w) : ∀ k, AnyX P main R D fn ops nf Q S lst k l a w
  | 0 => ⟨hr, h⟩
  | _ + 1 => ⟨fun _ => h, fun i hi => by rw [hr] at hi; cases hi⟩

/-- The beginning. -/
theorem wpC_region_any (T : Terms R D) (hd : LetsDraw D) {id : Nat} {a : Act} {w : World} (hm : P.follows .mixedOrders = true)
    (h : ∀ w₁, R w w₁ → AnyX P main R D fn ops nf Q S lst ops.size (Array.replicate ops.size false) a { w₁ with drawn := w₁.drawn + 1 }) : (Code.region id ops true).wpC P main R D fn (ops.size * (nf + 3) + 1 + 1) Q a w :=
  wpC_region_draw hd fun w₁ h₁ t => by
    simp only [Region.schedule, hm, Bool.true_or, if_true]
    exact anyX_sound T ops.size t _ a _ (h w₁ h₁)
theorem dc_start (m : Nat) : DC ops (Array.replicate m false) := fun j o _ hj => by
  simp [Array.getElem?_replicate] at hj
  split at hj <;> simp at hj
end
end Go.Gh

/-
  In company: a callee's contract whose results may lie in a variable; what a callee that only makes memory leaves to its caller.
-/
namespace Go.Gh
open Go.Conc Go.ConcN Go.RowKit
open Go.ConcR (Payload)

section
variable {P : Program} {main : Bool} {R : World → World → Prop} {D : World → World → Array Event → Prop}

theorem stepG_leaveE {b : Frame} {a : Act} {cs : List Frame} {w : World} {fn : Func} {todo : List Item} {c : Frame} {v : Value} (hn : b.kind = .normal) (hd : a.defers = []) (hf : P.funcs[b.fn]? = some fn) (hr : (results fn a.tmps).run P w = .ok v w) :
    stepG P main (G { b.at a todo with mode := .returning } (c :: cs)) w = .go (G (c.finish v) cs) w (seen P b.fn ((results fn a.tmps).events P w #[])) := by
  simp [G, stepG, unwind, doReturn, Frame.at, hn, hd, hf, hr, GStep.after]

/-- Entered with these arguments, in company, f comes back within n own steps, with a value and in a world that satisfy Post. -/
def CallsG (P : Program) (main : Bool) (R : World → World → Prop) (D : World → World → Array Event → Prop) (f : FuncId) (args : Array Value) (n : Nat) (w : World) (Post : Value → World → Prop) : Prop :=
  ∃ fn c, P.funcs[f]? = some fn ∧ (fn.name == "runtime.NumGoroutine") = false ∧ fn.body = some c ∧
    ∀ (b : Frame) (a : Act) (k : List Item) (cs : List Frame) (ops : Array Oper) (i : Nat) (rest : List Nat) (Stop : Goroutine → World → Prop) (m : Nat),
      (∀ v w', Post v w' → Goes P main R D Stop m (G (b.at (a.put ((ops[i]?).bind (·.dst)) v) (.inRegion ops rest :: k)) cs) w') →
      Goes P main R D Stop (m + n) (G ((base f).at { tmps := args ++ Array.replicate (fn.ntmps - args.size) undef, defers := [] } [.code c]) (b.at a (.inRegion ops (i :: rest) :: k) :: cs)) w

theorem callsG_of_wpC (T : Terms R D) {f : FuncId} {fn : Func} {c : Code} {args : Array Value} {n : Nat} {w : World} {Post : Value → World → Prop} {Q : Act → World → Prop} (hf : P.funcs[f]? = some fn) (hname : (fn.name == "runtime.NumGoroutine") = false) (hb : fn.body = some c)
    (hq : ∀ a' w', Q a' w' → a'.defers = [] ∧ ∀ w₁, R w' w₁ → ∃ v, (results fn a'.tmps).run P w₁ = .ok v w₁ ∧ D w₁ w₁ (seen P f ((results fn a'.tmps).events P w₁ #[])) ∧ Post v w₁)
    (h : c.wpC P main R D f n (fun e a' w' => match e with | .ret | .normal => Q a' w' | _ => False) { tmps := args ++ Array.replicate (fn.ntmps - args.size) undef, defers := [] } w) : CallsG P main R D f args (n + 2) w Post := by
  refine ⟨fn, c, hf, hname, hb, fun b a k cs ops i rest Stop m hK => ?_⟩
  have hleave : ∀ (a' : Act) (w' : World) (todo : List Item), Q a' w' → Goes P main R D Stop (m + 1) (G { (base f).at a' todo with mode := .returning } (b.at a (.inRegion ops (i :: rest) :: k) :: cs)) w' := by
    intro a' w' todo hQ
    obtain ⟨hd, hr⟩ := hq a' w' hQ
    refine Goes.step rfl fun w₁ h₁ => ?_
    obtain ⟨v, h1, h2, h3⟩ := hr w₁ h₁
    rw [stepG_leaveE (b := base f) rfl hd hf h1, Frame.finish_at]
    exact ⟨h2, hK v w₁ h3⟩
  have := h (base f) [] (b.at a (.inRegion ops (i :: rest) :: k) :: cs) Stop (m + 2) rfl (by simp [base]) fun e a' w' q => by
    cases e with
    | normal => exact Goes.step rfl fun w₁ h₁ => by rw [stepG_end]; exact ⟨T.idle _, (hleave a' w' [] q).rely T.trans h₁⟩
    | ret => exact fun todo => (hleave a' w' todo q).more
    | exit id => exact q.elim
    | goto l => exact q.elim
    | panic ch => exact q.elim
    | outgrown => exact q.elim
  exact this.mono (by omega)

theorem opsC_callG (T : Terms R D) {fn : FuncId} {Q : Exit → Act → World → Prop} {a : Act} {w : World} {ops : Array Oper} {i : Nat} {rest : List Nat} {o : Oper} {f : FuncId} {args : Array Operand} {ats : Array TypeId} {nf n : Nat} {Post : Value → World → Prop}
    (ho : ops[i]? = some o) (hw : Region.wanted o (yielded ops a.tmps) = true) (hop : o.op = .call { callee := .value (.func f), args, argTypes := ats })
    (hcall : CallsG P main R D f (args.map a.eval) nf w Post) (hnext : ∀ v w', Post v w' → OpsC P main R D fn ops rest n Q (a.put o.dst v) w') : OpsC P main R D fn ops (i :: rest) (n + nf + 1) Q a w := by
  intro b k cs Stop m hb hk hc
  obtain ⟨g, c, hf, hname, hbody, hG⟩ := hcall
  have := hG b a k cs ops i rest Stop (m + n) (fun v w' p => by rw [ho]; exact hnext v w' p b k cs Stop m hb hk hc)
  have e : m + (n + nf + 1) = (m + n + nf) + 1 := by omega
  rw [e]
  exact Goes.step rfl fun w₁ h₁ => goes_call ho hw hk hop hf hname hbody ⟨T.idle _, this.rely T.trans h₁⟩
end

section
variable [Payload] (Wg C n B : Nat) (Cl S : Nat → Prop)
/-- What a call leaves to its caller: the caller's own blocks stand but those of S; what is below B stands; its cells stand; nothing that was its own is lost. -/
structure Ex (w w' : World) : Prop where
  size : w.heap.size ≤ w'.heap.size
  tape : w'.tape = w.tape
  os : w'.os = w.os
  tag : tagOf w ≤ w.heap.size → tagOf w' ≤ w'.heap.size
  own : ∀ b, Mine w b → Mine w' b
  mine : ∀ b, Mine w b → ¬ S b → w'.heap[b]? = w.heap[b]?
  low : ∀ b, b < B → b ≠ Wg → b ≠ C → w'.heap[b]? = w.heap[b]?
  cell : ∀ i, Cl i → w'.cell? ⟨C, i, none⟩ = w.cell? ⟨C, i, none⟩
  pay : PayAt C n w → PayAt C n w'
end
section
variable [Payload] {Wg C n B : Nat} {Cl S : Nat → Prop} {w w' w₁ : World}
theorem Ex.refl (w : World) : Ex Wg C n B Cl S w w := ⟨Nat.le_refl _, rfl, rfl, id, fun _ => id, fun _ _ _ => rfl, fun _ _ _ _ => rfl, fun _ _ => rfl, id⟩
theorem Ex.trans (h : Ex Wg C n B Cl S w w') (h' : Ex Wg C n B Cl S w' w₁) : Ex Wg C n B Cl S w w₁ :=
  ⟨Nat.le_trans h.size h'.size, h'.tape.trans h.tape, h'.os.trans h.os, h'.tag ∘ h.tag, fun b x => h'.own b (h.own b x), fun b x y => (h'.mine b (h.own b x) y).trans (h.mine b x y), fun b x y z => (h'.low b x y z).trans (h.low b x y z),
    fun i x => (h'.cell i x).trans (h.cell i x), h'.pay ∘ h.pay⟩
theorem Ex.weaken {S' : Nat → Prop} (h : Ex Wg C n B Cl S w w') (hs : ∀ b, S b → S' b) : Ex Wg C n B Cl S' w w' :=
  ⟨h.size, h.tape, h.os, h.tag, h.own, fun b x y => h.mine b x fun z => y (hs b z), h.low, h.cell, h.pay⟩
theorem Ro.ex (h : Ro Wg C n B Cl w w') : Ex Wg C n B Cl S w w' :=
  ⟨h.size, h.tape, h.os, fun _ => Nat.le_of_eq h.tag, fun b x => (h.mineAt b).2 x, fun b x _ => h.mine b x, h.low, h.cell, h.pay⟩
theorem Ex.rely (h : Ex Wg C n B Cl S w w') (r : Ro Wg C n B Cl w' w₁) : Ex Wg C n B Cl S w w₁ := h.trans r.ex
theorem termsG [OldG] : Terms (Ro Wg C n B Cl) (Dg Wg C n B Cl) := ⟨fun _ _ _ a b => Ro.trans a b, fun w => Dg.idle w⟩
theorem drawG [OldG] : LetsDraw (Dg Wg C n B Cl) := fun w => ⟨Nat.le_refl _, rfl, rfl, fun _ _ _ _ => rfl, fun _ _ => rfl, id, by simp⟩
omit [Payload] in
theorem mine_grow (ho : w'.output = w.output) (hs : w.heap.size ≤ w'.heap.size) {b : Nat} (h : Mine w b) : Mine w' b := by
  unfold Mine ownOf tagOf at *
  rw [ho]
  exact h.imp id fun x => ⟨x.1, by omega⟩
omit [Payload] in
theorem tag_same (ho : w'.output = w.output) : tagOf w' = tagOf w := by unfold tagOf; rw [ho]
omit [Payload] in
theorem mine_fresh (ho : w'.output = w.output) (ht : tagOf w ≤ w.heap.size) {b : Nat} (h1 : w.heap.size ≤ b) (h2 : b < w'.heap.size) : Mine w' b := by
  refine .inr ⟨?_, h2⟩
  rw [tag_same ho]
  omega

omit [Payload] in
theorem sz_alloc (w : World) (o : Obj) : (w.alloc o).heap.size = w.heap.size + 1 := Array.size_push ..
omit [Payload] in
theorem sz_set (w : World) (a : Addr) (v : Value) : (w.setCell a v).heap.size = w.heap.size := by simp [World.setCell]
omit [Payload] in
theorem mine_lt (ht : ∀ b ∈ ownOf w, b < w.heap.size) {b : Nat} (h : Mine w b) : b < w.heap.size := h.elim (ht b) (·.2)

/-- To make a block. -/
theorem Ex.alloc (hC : C < w.heap.size) (hB : B ≤ w.heap.size) (hm : ∀ b, Mine w b → b < w.heap.size) (o : Obj) : Ex Wg C n B Cl S w (w.alloc o) :=
  ⟨by rw [sz_alloc]; omega, rfl, rfl, fun h => by rw [tag_same (w := w) (w' := w.alloc o) rfl, sz_alloc]; omega, fun b h => mine_grow (w := w) (w' := w.alloc o) rfl (by rw [sz_alloc]; omega) h, fun b h _ => Below.heap_alloc _ _ _ (hm b h), fun b h _ _ => Below.heap_alloc _ _ _ (by omega),
    fun i _ => World.cell?_alloc_lt _ _ _ hC, fun ⟨cs, h1, h2⟩ => ⟨cs, (Below.heap_alloc _ _ _ hC).trans h1, h2⟩⟩
theorem dg_alloc [OldG] (hC : C < w.heap.size) (o : Obj) {es : Array Event} (he : es = #[]) : Dg Wg C n B Cl w (w.alloc o) es := by
  subst he
  exact ⟨by rw [sz_alloc]; omega, rfl, rfl, fun b h _ _ => Below.heap_alloc _ _ _ h, fun i _ => World.cell?_alloc_lt _ _ _ hC, fun ⟨cs, h1, h2⟩ => ⟨cs, (Below.heap_alloc _ _ _ hC).trans h1, h2⟩, by simp⟩
/-- To write one cell of an own block. -/
theorem Ex.set {a : Addr} {v : Value} (hne : a.block ≠ C) (hS : S a.block) (hl : ¬ (a.block < B ∧ a.block ≠ Wg)) : Ex Wg C n B Cl S w (w.setCell a v) :=
  ⟨by rw [sz_set]; omega, rfl, rfl, fun h => by rw [tag_same (w := w) (w' := w.setCell a v) rfl, sz_set]; exact h, fun b h => mine_grow (w := w) (w' := w.setCell a v) rfl (by rw [sz_set]; omega) h, fun b _ h => Below.heap_setCell _ _ _ _ (fun e => h (e ▸ hS)), fun b h1 h2 _ => Below.heap_setCell _ _ _ _ (fun e => hl (by rw [← e]; exact ⟨h1, h2⟩)),
    fun i _ => World.cell?_setCell_other _ _ _ _ (fun e => hne (by rw [e])), fun ⟨cs, h1, h2⟩ => ⟨cs, (Below.heap_setCell _ _ _ _ (Ne.symm hne)).trans h1, h2⟩⟩
theorem dg_set [OldG] {a : Addr} {v : Value} (hm : Mine w a.block) (hne : a.block ≠ C) (ha : a.block < w.heap.size) {es : Array Event} (he : ∀ e ∈ es, ∃ b wr, e = ⟨.cell b, wr, false⟩ ∧ b.block = a.block) : Dg Wg C n B Cl w (w.setCell a v) es := by
  refine ⟨by rw [sz_set]; omega, rfl, rfl, fun b _ hb _ => Below.heap_setCell _ _ _ _ (fun e => hb (e ▸ hm)), fun i _ => World.cell?_setCell_other _ _ _ _ (fun e => hne (by rw [e])), fun ⟨cs, h1, h2⟩ => ⟨cs, (Below.heap_setCell _ _ _ _ (Ne.symm hne)).trans h1, h2⟩, fun e he' => ?_⟩
  obtain ⟨b, wr, rfl, hb⟩ := he e he'
  exact ⟨b, wr, rfl, by rw [sz_set]; omega, .inl (by rw [hb]; exact hm)⟩
variable [OldG]
/-- To read what may be read. -/
def Rdb (Wg C B : Nat) (w : World) (b : Nat) : Prop := Mine w b ∨ (b < B ∧ b ≠ Wg ∧ b ≠ C ∧ ¬ OldG.old b)
theorem dg_read {b : Nat} (hr : Rdb Wg C B w b) (hb : b < w.heap.size) {es : Array Event} (he : ∀ e ∈ es, ∃ a : Addr, e = ⟨.cell a, false, false⟩ ∧ a.block = b) : Dg Wg C n B Cl w w es := by
  refine ⟨Nat.le_refl _, rfl, rfl, fun _ _ _ _ => rfl, fun _ _ => rfl, id, fun e he' => ?_⟩
  obtain ⟨a, rfl, ha⟩ := he e he'
  exact ⟨a, false, rfl, by omega, hr.elim (fun x => .inl (by rw [ha]; exact x)) fun x => .inr (.inr (.inr (by rw [ha]; exact ⟨x.1, x.2.1, x.2.2.1, rfl, x.2.2.2⟩)))⟩
theorem Ex.rdb (h : Ex Wg C n B Cl S w w') {b : Nat} (hr : Rdb Wg C B w b) : Rdb Wg C B w' b := hr.imp (h.own b) id
/-- What may be read stands. -/
theorem Ex.stands (h : Ex Wg C n B Cl S w w') {b : Nat} (hr : Rdb Wg C B w b) (hS : ¬ S b) : w'.heap[b]? = w.heap[b]? := hr.elim (fun x => h.mine b x hS) fun x => h.low b x.1 x.2.1 x.2.2.1
end
end Go.Gh

/-
  What the calls that multiply and invert bytes answer: the program's and the document's.
-/
namespace Go.Proofs.YtlghjjennhpjeaaGreatDoor
open Go.RowKit

theorem ret_int {k : IntKind} {a b : Int} (h : a = b) : Ending.returned (.int k a) = .returned (.int k b) := by rw [h]

theorem tx_hi {a : Nat} (h : 128 ≤ a) : bits .xor .u8 ((a : Int) * 2 % 256) 29 = ((tx a : Nat) : Int) := by
  have e : ((a : Int) * 2 % 256) = ((a * 2 % 256 : Nat) : Int) := by omega
  rw [e, show (29 : Int) = ((29 : Nat) : Int) from rfl, u8_xor_nat _ _ (by omega) (by omega), tx, if_pos h, Nat.mul_comm]
theorem tx_lo {a : Nat} (h : ¬ 128 ≤ a) : (a : Int) * 2 = ((tx a : Nat) : Int) := by
  rw [tx, if_neg h]; omega

set_option maxHeartbeats 400000 in
set_option maxRecDepth 100000 in
theorem timesX_any (a : Nat) (ha : a < 256) (w : World) :
    Calls Tryz.prog 137 #[.int .u8 (a : Int)] w fun e w' => e = .returned (.int .u8 (tx a : Nat)) ∧ w' = w := by
  by_cases h : 128 ≤ a
  · go_enter Tryz.func137, Tryz.ntmps137
    go_wp2
    go_ret
    exact ⟨ret_int (tx_hi h), rfl⟩
  · go_enter Tryz.func137, Tryz.ntmps137
    go_wp2
    go_ret
    exact ⟨ret_int (tx_lo h), rfl⟩

theorem u8_val {x y : Int} (h : x = y) : Value.int .u8 x = Value.int .u8 y := by rw [h]
theorem i64_val {x y : Int} (h : x = y) : Value.int .i64 x = Value.int .i64 y := by rw [h]
theorem u8_and1 (y : Nat) (hy : y < 256) : bits .and .u8 (y : Int) 1 = ((y % 2 : Nat) : Int) := by
  rw [show (1 : Int) = ((1 : Nat) : Int) from rfl, u8_and_nat _ _ hy (by omega), Nat.and_one_is_mod]
theorem u8_xor_b {x y : Nat} (hx : x < 256) (hy : y < 256) : bits .xor .u8 (x : Int) (y : Int) = ((x ^^^ y : Nat) : Int) := u8_xor_nat _ _ hx hy
theorem mulN_step {k p x y m : Nat} (hk : k < 8) (H : mulN (8 - k) p x y = m) :
    mulN (8 - (k + 1)) (if y % 2 = 1 then p ^^^ x else p) (tx x) (y / 2) = m := by
  obtain ⟨n, hn⟩ : ∃ n, 8 - k = n + 1 := ⟨8 - k - 1, by omega⟩
  have e : 8 - (k + 1) = n := by omega
  rw [e]; rw [hn, mulN] at H; exact H

set_option maxHeartbeats 400000 in
set_option maxRecDepth 100000 in
theorem mul_any (a b : Nat) (ha : a < 256) (hb : b < 256) (w : World) :
    Calls Tryz.prog 123 #[.int .u8 (a : Int), .int .u8 (b : Int)] w fun e w' => e = .returned (.int .u8 (mul a b : Nat)) ∧ w' = w := by
  go_enter Tryz.func123, Tryz.ntmps123
  go_wp2
  go_loop [0, 1, 5, 6] (fun va vb vp vi => ∃ k p x y : Nat, k ≤ 8 ∧ p < 256 ∧ x < 256 ∧ y < 256 ∧ va = .int .u8 (x : Int) ∧ vb = .int .u8 (y : Int) ∧ vp = .int .u8 (p : Int) ∧ vi = .int .i64 (k : Int) ∧ Hid (mulN (8 - k) p x y = mul a b)) (fun _ _ _ i => 8 - (intOf i).toNat)
  case atStart => exact ⟨0, 0, a, b, by omega, by omega, ha, hb, rfl, rfl, rfl, rfl, rfl⟩
  case round =>
    obtain ⟨k, p, x, y, hk, hp, hx, hy, rfl, rfl, rfl, rfl, H⟩ := hrel
    by_cases hlt : k < 8
    · have hand := u8_and1 y hy
      go_wp2_with (first | (go_at_call 137; refine (timesX_any _ (by assumption) _).mono ?_; rintro e w' ⟨rfl, rfl⟩))
      · have h1 : ((y : Int) % 2 == 1) = true := by assumption
        have h2 : y % 2 = 1 := by simp at h1; omega
        have G := mulN_step hlt H.out
        rw [if_pos h2] at G
        go_round
        case rel => exact ⟨k + 1, p ^^^ x, tx x, y / 2, by omega, xor_lt hp hx, tx_lt hx, by omega, rfl, u8_val (by omega), u8_val (u8_xor_b hp hx), by go_num, G⟩
        case measure => simp [intOf]; omega
      · have h1 : ((y : Int) % 2 == 1) = false := by assumption
        have h2 : ¬ y % 2 = 1 := by simp at h1; omega
        have G := mulN_step hlt H.out
        rw [if_neg h2] at G
        go_round
        case rel => exact ⟨k + 1, p, tx x, y / 2, by omega, hp, tx_lt hx, by omega, rfl, u8_val (by omega), rfl, by go_num, G⟩
        case measure => simp [intOf]; omega
    · have e : k = 8 := by omega
      subst e
      have G : p = mul a b := H.out
      have HG : Hid (p = mul a b) := G
      clear G H
      go_wp2
      go_ret
      exact ⟨ret_int (by rw [HG.out]), rfl⟩

theorem invN_step {k p v m : Nat} (hk : k < 7) (H : invN (7 - k) p v = m) : invN (7 - (k + 1)) (mul p p) (mul v (mul p p)) = m := by
  obtain ⟨n, hn⟩ : ∃ n, 7 - k = n + 1 := ⟨7 - k - 1, by omega⟩
  have e : 7 - (k + 1) = n := by omega
  rw [e]; rw [hn, invN] at H; exact H

set_option maxHeartbeats 400000 in
set_option maxRecDepth 100000 in
theorem inv_any (a : Nat) (ha : a < 256) (w : World) :
    Calls Tryz.prog 94 #[.int .u8 (a : Int)] w fun e w' => e = .returned (.int .u8 (inv a : Nat)) ∧ w' = w := by
  go_enter Tryz.func94, Tryz.ntmps94
  go_wp2
  go_loop [3, 4, 6] (fun vp vv vi => ∃ k p v : Nat, k ≤ 7 ∧ p < 256 ∧ v < 256 ∧ vp = .int .u8 (p : Int) ∧ vv = .int .u8 (v : Int) ∧ vi = .int .i64 (k : Int) ∧ Hid (invN (7 - k) p v = inv a)) (fun _ _ i => 7 - (intOf i).toNat)
  case atStart => exact ⟨0, a, 1, by omega, ha, by omega, rfl, rfl, rfl, rfl⟩
  case round =>
    obtain ⟨k, p, v, hk, hp, hv, rfl, rfl, rfl, H⟩ := hrel
    by_cases hlt : k < 7
    · have hpp : mul p p < 256 := mul_lt hp
      go_wp2_with (first | (go_at_call 123; refine (mul_any _ _ (by assumption) (by assumption) _).mono ?_; rintro e w' ⟨rfl, rfl⟩))
      go_round
      case rel => exact ⟨k + 1, mul p p, mul v (mul p p), by omega, mul_lt hp, mul_lt hv, rfl, rfl, by go_num, invN_step hlt H.out⟩
      case measure => simp [intOf]; omega
    · have e : k = 7 := by omega
      subst e
      have HG : Hid (v = inv a) := H.out
      clear H
      go_wp2
      go_ret
      exact ⟨ret_int (by rw [HG.out]), rfl⟩

end Go.Proofs.YtlghjjennhpjeaaGreatDoor

/-
  Bytes as a field, in plain numbers: multiplying as the program and as the document do it, that they agree, and that it is a field.
-/
namespace Go.Proofs.YtkpcmfgeanlcnabDoor

/-- times x -/
def tx (a : Nat) : Nat := if 128 ≤ a then (2 * a % 256) ^^^ 29 else 2 * a

/-- the program's rounds -/
def mulN : Nat → Nat → Nat → Nat → Nat
  | 0, p, _, _ => p
  | n + 1, p, a, b => mulN n (if b % 2 = 1 then p ^^^ a else p) (tx a) (b / 2)
def mul (a b : Nat) : Nat := mulN 8 0 a b

theorem tx_eq : ∀ a : Fin 256, tx a.val = (2 * a.val) ^^^ (285 * (a.val / 128)) := by decide +kernel
theorem tx_lt256 : ∀ a : Fin 256, tx a.val < 256 := by decide +kernel
theorem tx_lt {a : Nat} (h : a < 256) : tx a < 256 := tx_lt256 ⟨a, h⟩
theorem xor_lt {a b : Nat} (ha : a < 256) (hb : b < 256) : a ^^^ b < 256 := Nat.xor_lt_two_pow (n := 8) ha hb

theorem tx_xor {a b : Nat} (ha : a < 256) (hb : b < 256) : tx (a ^^^ b) = tx a ^^^ tx b := by
  have h1 := tx_eq ⟨a ^^^ b, xor_lt ha hb⟩
  have h2 := tx_eq ⟨a, ha⟩
  have h3 := tx_eq ⟨b, hb⟩
  simp only at h1 h2 h3
  rw [h1, h2, h3]
  have e1 : 2 * (a ^^^ b) = (2 * a) ^^^ (2 * b) := by
    have := Nat.shiftLeft_xor_distrib (a := a) (b := b) (i := 1)
    simpa [Nat.shiftLeft_eq, Nat.mul_comm] using this
  have e2 : (a ^^^ b) / 128 = (a / 128) ^^^ (b / 128) := by
    have := Nat.shiftRight_xor_distrib (a := a) (b := b) (i := 7)
    simpa [Nat.shiftRight_eq_div_pow] using this
  have e3 : ∀ p q : Nat, p < 2 → q < 2 → 285 * (p ^^^ q) = (285 * p) ^^^ (285 * q) := by
    intro p q hp hq
    have : p = 0 ∨ p = 1 := by omega
    have : q = 0 ∨ q = 1 := by omega
    rcases ‹p = 0 ∨ p = 1› with rfl | rfl <;> rcases ‹q = 0 ∨ q = 1› with rfl | rfl <;> rfl
  rw [e1, e2, e3 _ _ (by omega) (by omega)]
  rw [Nat.xor_assoc, Nat.xor_assoc]
  congr 1
  rw [← Nat.xor_assoc, Nat.xor_comm (2 * b), Nat.xor_assoc]

theorem xor4 (a b c d : Nat) : (a ^^^ b) ^^^ (c ^^^ d) = (a ^^^ c) ^^^ (b ^^^ d) := by
  rw [Nat.xor_assoc, Nat.xor_assoc]; congr 1
  rw [← Nat.xor_assoc, Nat.xor_comm b, Nat.xor_assoc]

theorem tx_zero : tx 0 = 0 := rfl

theorem mulN_lt : ∀ (n p a b : Nat), p < 256 → a < 256 → mulN n p a b < 256
  | 0, _, _, _, hp, _ => hp
  | n + 1, p, a, b, hp, ha => by
    rw [mulN]
    refine mulN_lt n _ _ _ ?_ (tx_lt ha)
    split
    · exact xor_lt hp ha
    · exact hp
theorem mul_lt {a b : Nat} (ha : a < 256) : mul a b < 256 := mulN_lt 8 0 a b (by omega) ha

theorem mulN_xor_left : ∀ (n p q a c b : Nat), a < 256 → c < 256 → mulN n (p ^^^ q) (a ^^^ c) b = mulN n p a b ^^^ mulN n q c b
  | 0, _, _, _, _, _, _, _ => rfl
  | n + 1, p, q, a, c, b, ha, hc => by
    rw [mulN, mulN, mulN, tx_xor ha hc]
    split
    · rw [xor4, mulN_xor_left n _ _ _ _ _ (tx_lt ha) (tx_lt hc)]
    · rw [mulN_xor_left n _ _ _ _ _ (tx_lt ha) (tx_lt hc)]

theorem mul_xor_left {a c : Nat} (b : Nat) (ha : a < 256) (hc : c < 256) : mul (a ^^^ c) b = mul a b ^^^ mul c b := by
  have := mulN_xor_left 8 0 0 a c b ha hc
  simpa [mul] using this

theorem xor_mod2 (b d : Nat) : (b ^^^ d) % 2 = if b % 2 = d % 2 then 0 else 1 := by
  have h : (b ^^^ d) % 2 ^ 1 = (b % 2 ^ 1) ^^^ (d % 2 ^ 1) := Nat.xor_mod_two_pow
  rw [Nat.pow_one] at h
  rw [h]
  have h1 : b % 2 = 0 ∨ b % 2 = 1 := by omega
  have h2 : d % 2 = 0 ∨ d % 2 = 1 := by omega
  rcases h1 with h1 | h1 <;> rcases h2 with h2 | h2 <;> rw [h1, h2] <;> rfl

theorem xor_div2 (b d : Nat) : (b ^^^ d) / 2 = (b / 2) ^^^ (d / 2) := by
  have := Nat.shiftRight_xor_distrib (a := b) (b := d) (i := 1)
  simpa [Nat.shiftRight_eq_div_pow] using this

theorem mulN_xor_right : ∀ (n p q a b d : Nat), a < 256 → mulN n (p ^^^ q) a (b ^^^ d) = mulN n p a b ^^^ mulN n q a d
  | 0, _, _, _, _, _, _ => rfl
  | n + 1, p, q, a, b, d, ha => by
    rw [mulN, mulN, mulN, xor_div2, xor_mod2]
    rw [← mulN_xor_right n _ _ _ _ _ (tx_lt ha)]
    congr 1
    have h1 : b % 2 = 0 ∨ b % 2 = 1 := by omega
    have h2 : d % 2 = 0 ∨ d % 2 = 1 := by omega
    rcases h1 with h1 | h1 <;> rcases h2 with h2 | h2 <;> simp [h1, h2]
    · rw [Nat.xor_assoc]
    · rw [Nat.xor_assoc, Nat.xor_assoc, Nat.xor_comm a]
    · rw [xor4, Nat.xor_self, Nat.xor_zero]

theorem mul_xor_right {a : Nat} (b d : Nat) (ha : a < 256) : mul a (b ^^^ d) = mul a b ^^^ mul a d := by
  have := mulN_xor_right 8 0 0 a b d ha
  simpa [mul] using this

/-- A function on bytes that keeps exclusive or. -/
def Lin (f : Nat → Nat) : Prop := ∀ a b, a < 256 → b < 256 → f (a ^^^ b) = f a ^^^ f b

theorem bits8 : ∀ a : Fin 256, a.val = (((((((a.val / 128 % 2 * 128) ^^^ (a.val / 64 % 2 * 64)) ^^^ (a.val / 32 % 2 * 32)) ^^^ (a.val / 16 % 2 * 16)) ^^^ (a.val / 8 % 2 * 8)) ^^^ (a.val / 4 % 2 * 4)) ^^^ (a.val / 2 % 2 * 2)) ^^^ (a.val % 2 * 1) := by
  decide +kernel

theorem Lin.zero {f : Nat → Nat} (h : Lin f) : f 0 = 0 := by
  have := h 0 0 (by omega) (by omega)
  rw [Nat.xor_self, Nat.xor_self] at this
  exact this

theorem lin_bit {f g : Nat → Nat} (hf : Lin f) (hg : Lin g) (x m : Nat) (hx : x < 2) (h : f m = g m) : f (x * m) = g (x * m) := by
  have : x = 0 ∨ x = 1 := by omega
  rcases this with rfl | rfl
  · rw [Nat.zero_mul, hf.zero, hg.zero]
  · rw [Nat.one_mul, h]

/-- Two such functions are one where they agree on the eight bits. -/
theorem Lin.ext {f g : Nat → Nat} (hf : Lin f) (hg : Lin g) (h : ∀ i : Fin 8, f (2 ^ i.val) = g (2 ^ i.val)) (a : Nat) (ha : a < 256) : f a = g a := by
  have e := bits8 ⟨a, ha⟩
  simp only at e
  have x7 : a / 128 % 2 * 128 < 256 := by omega
  have x6 : a / 64 % 2 * 64 < 256 := by omega
  have x5 : a / 32 % 2 * 32 < 256 := by omega
  have x4 : a / 16 % 2 * 16 < 256 := by omega
  have x3 : a / 8 % 2 * 8 < 256 := by omega
  have x2 : a / 4 % 2 * 4 < 256 := by omega
  have x1 : a / 2 % 2 * 2 < 256 := by omega
  have x0 : a % 2 * 1 < 256 := by omega
  have y6 := xor_lt x7 x6
  have y5 := xor_lt y6 x5
  have y4 := xor_lt y5 x4
  have y3 := xor_lt y4 x3
  have y2 := xor_lt y3 x2
  have y1 := xor_lt y2 x1
  rw [e, hf _ _ y1 x0, hg _ _ y1 x0, hf _ _ y2 x1, hg _ _ y2 x1, hf _ _ y3 x2, hg _ _ y3 x2, hf _ _ y4 x3, hg _ _ y4 x3,
    hf _ _ y5 x4, hg _ _ y5 x4, hf _ _ y6 x5, hg _ _ y6 x5, hf _ _ x7 x6, hg _ _ x7 x6,
    lin_bit hf hg _ 128 (by omega) (h 7), lin_bit hf hg _ 64 (by omega) (h 6), lin_bit hf hg _ 32 (by omega) (h 5), lin_bit hf hg _ 16 (by omega) (h 4),
    lin_bit hf hg _ 8 (by omega) (h 3), lin_bit hf hg _ 4 (by omega) (h 2), lin_bit hf hg _ 2 (by omega) (h 1), lin_bit hf hg _ 1 (by omega) (h 0)]

theorem lin_mul_left (b : Nat) : Lin (fun a => mul a b) := fun _ _ ha hc => mul_xor_left b ha hc
theorem lin_mul_right {a : Nat} (ha : a < 256) : Lin (fun b => mul a b) := fun _ _ _ _ => mul_xor_right _ _ ha

theorem mul_one {a : Nat} (ha : a < 256) : mul a 1 = a :=
  Lin.ext (f := fun a => mul a 1) (g := fun a => a) (lin_mul_left 1) (fun _ _ _ _ => rfl) (by decide +kernel) a ha
theorem mul_zero (a : Nat) : mul a 0 = 0 := by
  simp [mul, mulN]
theorem zero_mul {a : Nat} : mul 0 a = 0 := (lin_mul_left a).zero

theorem pow_lt (i : Fin 8) : 2 ^ i.val < 256 := by
  revert i; decide

theorem comm88 : ∀ i j : Fin 8, mul (2 ^ i.val) (2 ^ j.val) = mul (2 ^ j.val) (2 ^ i.val) := by decide +kernel
theorem mul_comm {a b : Nat} (ha : a < 256) (hb : b < 256) : mul a b = mul b a := by
  refine Lin.ext (f := fun a => mul a b) (g := fun a => mul b a) (lin_mul_left b) (lin_mul_right hb) (fun i => ?_) a ha
  exact Lin.ext (f := fun b => mul (2 ^ i.val) b) (g := fun b => mul b (2 ^ i.val)) (lin_mul_right (pow_lt i)) (lin_mul_left _) (fun j => comm88 i j) b hb

theorem assoc888 : ∀ i j k : Fin 8, mul (2 ^ i.val) (mul (2 ^ j.val) (2 ^ k.val)) = mul (mul (2 ^ i.val) (2 ^ j.val)) (2 ^ k.val) := by decide +kernel
theorem mul_assoc {a b c : Nat} (ha : a < 256) (hb : b < 256) (hc : c < 256) : mul a (mul b c) = mul (mul a b) c := by
  refine Lin.ext (f := fun a => mul a (mul b c)) (g := fun a => mul (mul a b) c) (lin_mul_left _) ?_ (fun i => ?_) a ha
  · intro x y hx hy; show mul (mul (x ^^^ y) b) c = _; rw [mul_xor_left b hx hy, mul_xor_left c (mul_lt hx) (mul_lt hy)]
  refine Lin.ext (f := fun b => mul (2 ^ i.val) (mul b c)) (g := fun b => mul (mul (2 ^ i.val) b) c) ?_ ?_ (fun j => ?_) b hb
  · intro x y hx hy; show mul _ (mul (x ^^^ y) c) = _; rw [mul_xor_left c hx hy, mul_xor_right _ _ (pow_lt i)]
  · intro x y hx hy; show mul (mul _ (x ^^^ y)) c = _; rw [mul_xor_right _ _ (pow_lt i), mul_xor_left c (mul_lt (pow_lt i)) (mul_lt (pow_lt i))]
  refine Lin.ext (f := fun c => mul (2 ^ i.val) (mul (2 ^ j.val) c)) (g := fun c => mul (mul (2 ^ i.val) (2 ^ j.val)) c) ?_ ?_ (fun k => assoc888 i j k) c hc
  · intro x y hx hy; show mul _ (mul _ (x ^^^ y)) = _; rw [mul_xor_right _ _ (pow_lt j), mul_xor_right _ _ (pow_lt i)]
  · intro x y hx hy; show mul (mul _ _) (x ^^^ y) = _; rw [mul_xor_right _ _ (mul_lt (pow_lt i))]

/-- the program's inverse: seven rounds -/
def invN : Nat → Nat → Nat → Nat
  | 0, _, v => v
  | n + 1, p, v => invN n (mul p p) (mul v (mul p p))
def inv (a : Nat) : Nat := invN 7 a 1

theorem inv_lt256 : ∀ a : Fin 256, inv a.val < 256 := by decide +kernel
theorem inv_lt {a : Nat} (ha : a < 256) : inv a < 256 := inv_lt256 ⟨a, ha⟩
theorem mul_inv256 : ∀ a : Fin 256, a.val = 0 ∨ mul a.val (inv a.val) = 1 := by decide +kernel
theorem mul_inv {a : Nat} (ha : a < 256) (h0 : a ≠ 0) : mul a (inv a) = 1 := (mul_inv256 ⟨a, ha⟩).resolve_left h0
theorem inv_zero : inv 0 = 0 := by decide +kernel
theorem inv_unique {a b : Nat} (ha : a < 256) (hb : b < 256) (h : mul a b = 1) : b = inv a := by
  have h0 : a ≠ 0 := by
    rintro rfl
    rw [zero_mul] at h
    exact absurd h (by decide)
  have h1 := mul_inv ha h0
  have hi := inv_lt ha
  have e : mul (inv a) (mul a b) = mul (mul (inv a) a) b := mul_assoc hi ha hb
  rw [h, mul_one hi, mul_comm hi ha, h1, mul_comm (by omega) hb, mul_one hb] at e
  exact e.symm
theorem inv_ne_zero {a : Nat} (ha : a < 256) (h0 : a ≠ 0) : inv a ≠ 0 := by
  intro h
  have := mul_inv ha h0
  rw [h, mul_zero] at this
  exact absurd this (by decide)
theorem inv_inv {a : Nat} (ha : a < 256) : inv (inv a) = a := by
  by_cases h0 : a = 0
  · subst h0; rw [inv_zero, inv_zero]
  · have hi := inv_lt ha
    exact (inv_unique hi ha (by rw [mul_comm hi ha]; exact mul_inv ha h0)).symm

/-- the document's rounds: polynomials multiplied .. -/
def refP (a b : Nat) : Nat → Nat
  | 0 => 0
  | k + 1 => if b / 2 ^ k % 2 = 1 then refP a b k ^^^ (a * 2 ^ k) else refP a b k
/-- .. then the remainder: n rounds, from the bit 7 + n on -/
def refM : Nat → Nat → Nat
  | 0, p => p
  | n + 1, p => refM n (if p / 2 ^ (8 + n) % 2 = 1 then p ^^^ (285 * 2 ^ n) else p)
def refMul (a b : Nat) : Nat := refM 7 (refP a b 8) % 256

theorem xor_shr (x y k : Nat) : (x ^^^ y) / 2 ^ k = (x / 2 ^ k) ^^^ (y / 2 ^ k) := by
  have := Nat.shiftRight_xor_distrib (a := x) (b := y) (i := k)
  simpa [Nat.shiftRight_eq_div_pow] using this
theorem xor_shl (x y k : Nat) : (x ^^^ y) * 2 ^ k = (x * 2 ^ k) ^^^ (y * 2 ^ k) := by
  have := Nat.shiftLeft_xor_distrib (a := x) (b := y) (i := k)
  simpa [Nat.shiftLeft_eq] using this

theorem refP_lt (a b : Nat) (ha : a < 256) : ∀ k, refP a b k < 2 ^ (8 + k)
  | 0 => by simp [refP]
  | k + 1 => by
    have ih := refP_lt a b ha k
    have e : 2 ^ (8 + (k + 1)) = 2 * 2 ^ (8 + k) := by rw [← Nat.add_assoc, Nat.pow_succ]; omega
    rw [refP]
    split
    · refine Nat.xor_lt_two_pow (by omega) ?_
      have : a * 2 ^ k < 256 * 2 ^ k := Nat.mul_lt_mul_of_pos_right ha (Nat.two_pow_pos k)
      have : 256 * 2 ^ k = 2 ^ (8 + k) := by rw [Nat.pow_add]
      omega
    · omega

theorem refP_xor_right (a b d : Nat) : ∀ k, refP a (b ^^^ d) k = refP a b k ^^^ refP a d k
  | 0 => by simp [refP]
  | k + 1 => by
    rw [refP, refP, refP, refP_xor_right a b d k, xor_shr, xor_mod2]
    have h1 : b / 2 ^ k % 2 = 0 ∨ b / 2 ^ k % 2 = 1 := by omega
    have h2 : d / 2 ^ k % 2 = 0 ∨ d / 2 ^ k % 2 = 1 := by omega
    rcases h1 with h1 | h1 <;> rcases h2 with h2 | h2 <;> simp [h1, h2]
    · rw [Nat.xor_assoc]
    · rw [Nat.xor_assoc, Nat.xor_assoc]; congr 1; rw [Nat.xor_comm]
    · rw [xor4, Nat.xor_self, Nat.xor_zero]
theorem refP_xor_left (a c b : Nat) : ∀ k, refP (a ^^^ c) b k = refP a b k ^^^ refP c b k
  | 0 => by simp [refP]
  | k + 1 => by
    rw [refP, refP, refP, refP_xor_left a c b k]
    split
    · rw [xor_shl, xor4]
    · rfl
theorem refM_xor : ∀ (n p q : Nat), refM n (p ^^^ q) = refM n p ^^^ refM n q
  | 0, _, _ => rfl
  | n + 1, p, q => by
    rw [refM, refM, refM, ← refM_xor n, xor_shr, xor_mod2]
    congr 1
    have h1 : p / 2 ^ (8 + n) % 2 = 0 ∨ p / 2 ^ (8 + n) % 2 = 1 := by omega
    have h2 : q / 2 ^ (8 + n) % 2 = 0 ∨ q / 2 ^ (8 + n) % 2 = 1 := by omega
    rcases h1 with h1 | h1 <;> rcases h2 with h2 | h2 <;> simp [h1, h2]
    · rw [Nat.xor_assoc]
    · rw [Nat.xor_assoc, Nat.xor_assoc]; congr 1; rw [Nat.xor_comm]
    · rw [xor4, Nat.xor_self, Nat.xor_zero]
theorem xor_mod256 (x y : Nat) : (x ^^^ y) % 256 = (x % 256) ^^^ (y % 256) := Nat.xor_mod_two_pow (n := 8)
theorem refMul_xor_right (a b d : Nat) : refMul a (b ^^^ d) = refMul a b ^^^ refMul a d := by
  simp only [refMul, refP_xor_right, refM_xor, xor_mod256]
theorem refMul_xor_left (a c b : Nat) : refMul (a ^^^ c) b = refMul a b ^^^ refMul c b := by
  simp only [refMul, refP_xor_left, refM_xor, xor_mod256]
theorem ref88 : ∀ i j : Fin 8, refMul (2 ^ i.val) (2 ^ j.val) = mul (2 ^ i.val) (2 ^ j.val) := by decide +kernel
/-- The document's multiplying is the program's. -/
theorem refMul_eq {a b : Nat} (ha : a < 256) (hb : b < 256) : refMul a b = mul a b := by
  refine Lin.ext (f := fun a => refMul a b) (g := fun a => mul a b) (fun _ _ _ _ => refMul_xor_left _ _ _) (lin_mul_left b) (fun i => ?_) a ha
  exact Lin.ext (f := fun b => refMul (2 ^ i.val) b) (g := fun b => mul (2 ^ i.val) b) (fun _ _ _ _ => refMul_xor_right _ _ _) (lin_mul_right (pow_lt i)) (fun j => ref88 i j) b hb

theorem odd_lt2 {q : Nat} (h : q % 2 = 1) (h2 : q < 2) : q = 1 := by omega
theorem even_lt2 {q : Nat} (h : ¬ q % 2 = 1) (h2 : q < 2) : q = 0 := by omega
theorem refM_lt : ∀ n p, p < 2 ^ (8 + n) → refM n p < 256
  | 0, _, h => by simpa [refM] using h
  | n + 1, p, h => by
    rw [refM]
    apply refM_lt n
    have e : 2 ^ (8 + (n + 1)) = 2 * 2 ^ (8 + n) := by rw [← Nat.add_assoc, Nat.pow_succ]; omega
    have hp := Nat.two_pow_pos (8 + n)
    split
    · rename_i h1
      have e2 : 2 ^ (8 + n) = 256 * 2 ^ n := by rw [Nat.pow_add]
      have hd : p / 2 ^ (8 + n) = 1 := by
        have h2 : p / 2 ^ (8 + n) < 2 := by rw [Nat.div_lt_iff_lt_mul hp]; omega
        exact odd_lt2 h1 h2
      have h3 : (p ^^^ (285 * 2 ^ n)) / 2 ^ (8 + n) = 0 := by
        rw [xor_shr, hd]
        have : 285 * 2 ^ n / 2 ^ (8 + n) = 1 := by
          rw [e2, Nat.mul_div_mul_right _ _ (Nat.two_pow_pos n)]
        rw [this]; rfl
      have := (Nat.div_eq_zero_iff (a := p ^^^ (285 * 2 ^ n)) (b := 2 ^ (8 + n))).mp h3
      omega
    · have hd : p / 2 ^ (8 + n) < 2 := by rw [Nat.div_lt_iff_lt_mul hp]; omega
      have h3 : p / 2 ^ (8 + n) = 0 := even_lt2 ‹_› hd
      have := (Nat.div_eq_zero_iff (a := p) (b := 2 ^ (8 + n))).mp h3
      omega

end Go.Proofs.YtkpcmfgeanlcnabDoor

/-
  The sum of 64 bits, in plain numbers: bit by bit and by four bits at a time are one.
-/
import Derived.Test.YtkpcmfgeanlcnabDoorProg
import Derived.WalkKit
import Derived.WalkSpells
import Derived.WalkLawsBesides
namespace Go.Proofs.YtkpcmfgeanlcnabDoor

def crcC : Nat := 14514072000185962306
def crcAll : Nat := 18446744073709551615

/-- one bit -/
def crc1 (v : Nat) : Nat := if v % 2 = 1 then (v / 2) ^^^ crcC else v / 2
/-- n bits -/
def crcN : Nat → Nat → Nat
  | 0, v => v
  | n + 1, v => crcN n (crc1 v)
/-- a byte -/
def crcB (v b : Nat) : Nat := crcN 8 (v ^^^ b)
/-- bytes -/
def crcL (v : Nat) : List Nat → Nat
  | [] => v
  | b :: l => crcL (crcB v b) l
/-- the sum -/
def crc (l : List Nat) : Nat := crcAll - crcL crcAll l

def crcTab : List Nat := [0, 9051005139383707209, 18102010278767414418, 9704381199536204507, 7257036000092981153, 1814259000023245288, 11493583972846619443, 16292555063049989498, 14514072000185962306, 13040162471224305931, 3628518000046490576, 5746791986423309721, 12527462061959317731, 15006518869663149738, 6263731030979658865, 3131865515489829432]
def crc4 (v : Nat) : Nat := (v / 16) ^^^ crcTab.getD (v % 16) 0

theorem crc_xor2 (b d : Nat) : (b ^^^ d) % 2 = if b % 2 = d % 2 then 0 else 1 := by
  have h : (b ^^^ d) % 2 ^ 1 = (b % 2 ^ 1) ^^^ (d % 2 ^ 1) := Nat.xor_mod_two_pow
  rw [Nat.pow_one] at h
  rw [h]
  have h1 : b % 2 = 0 ∨ b % 2 = 1 := by omega
  have h2 : d % 2 = 0 ∨ d % 2 = 1 := by omega
  rcases h1 with h1 | h1 <;> rcases h2 with h2 | h2 <;> rw [h1, h2] <;> rfl
theorem crc_div2 (b d : Nat) : (b ^^^ d) / 2 = (b / 2) ^^^ (d / 2) := by
  have := Nat.shiftRight_xor_distrib (a := b) (b := d) (i := 1)
  simpa [Nat.shiftRight_eq_div_pow] using this
theorem crc_xor4 (a b c d : Nat) : (a ^^^ b) ^^^ (c ^^^ d) = (a ^^^ c) ^^^ (b ^^^ d) := by
  rw [Nat.xor_assoc, Nat.xor_assoc]; congr 1
  rw [← Nat.xor_assoc, Nat.xor_comm b, Nat.xor_assoc]

theorem crc1_xor (a b : Nat) : crc1 (a ^^^ b) = crc1 a ^^^ crc1 b := by
  unfold crc1
  generalize crcC = C
  rw [crc_xor2, crc_div2]
  have h1 : a % 2 = 0 ∨ a % 2 = 1 := by omega
  have h2 : b % 2 = 0 ∨ b % 2 = 1 := by omega
  rcases h1 with h1 | h1 <;> rcases h2 with h2 | h2 <;> simp [h1, h2]
  · rw [Nat.xor_assoc]
  · rw [Nat.xor_assoc, Nat.xor_assoc, Nat.xor_comm C]
  · rw [crc_xor4, Nat.xor_self, Nat.xor_zero]
theorem crcN_xor : ∀ n a b, crcN n (a ^^^ b) = crcN n a ^^^ crcN n b
  | 0, _, _ => rfl
  | n + 1, a, b => by rw [crcN, crcN, crcN, crc1_xor, crcN_xor n]
theorem crcN_add : ∀ n m v, crcN (n + m) v = crcN m (crcN n v)
  | 0, m, v => by simp [crcN]
  | n + 1, m, v => by rw [Nat.succ_add, crcN, crcN, crcN_add n]
theorem crc1_even (v : Nat) : crc1 (2 * v) = v := by unfold crc1; rw [if_neg (by omega)]; omega
theorem crcN4_16 (h : Nat) : crcN 4 (16 * h) = h := by
  have e : 16 * h = 2 * (2 * (2 * (2 * h))) := by omega
  rw [e]; simp only [crcN, crc1_even]
theorem crcTab_ok : ∀ l : Fin 16, crcTab.getD l.val 0 = crcN 4 l.val := by decide +kernel
theorem split16 (v : Nat) : v = (16 * (v / 16)) ^^^ (v % 16) := by
  have h := Nat.two_pow_add_eq_or_of_lt (i := 4) (b := v % 16) (by omega) (v / 16)
  have e : v = 2 ^ 4 * (v / 16) + v % 16 := by omega
  have h2 : 2 ^ 4 * (v / 16) ||| v % 16 = (2 ^ 4 * (v / 16)) ^^^ (v % 16) := by
    apply Nat.eq_of_testBit_eq
    intro i
    rw [Nat.testBit_or, Nat.testBit_xor, Nat.testBit_two_pow_mul, show v % 16 = v % 2 ^ 4 from rfl, Nat.testBit_mod_two_pow]
    by_cases hi : i < 4
    · simp [hi, Nat.not_le.2 hi]
    · simp [hi, Nat.not_lt.1 hi]
  rw [h2] at h
  calc v = 2 ^ 4 * (v / 16) + v % 16 := e
    _ = _ := h
/-- Four bits at a time. -/
theorem crc4_eq (v : Nat) : crc4 v = crcN 4 v := by
  have e := split16 v
  have h : crcN 4 v = crcN 4 (16 * (v / 16)) ^^^ crcN 4 (v % 16) := by rw [← crcN_xor, ← e]
  rw [h, crcN4_16, crc4, crcTab_ok ⟨v % 16, Nat.mod_lt _ (by omega)⟩]
theorem crcB_eq (v b : Nat) : crc4 (crc4 (v ^^^ b)) = crcB v b := by
  rw [crc4_eq, crc4_eq, crcB, ← crcN_add]

theorem crcC_lt : crcC < 2 ^ 64 := by decide
theorem crc1_lt {v : Nat} (h : v < 2 ^ 64) : crc1 v < 2 ^ 64 := by
  unfold crc1
  split
  · exact Nat.xor_lt_two_pow (by omega) crcC_lt
  · omega
theorem crcN_lt : ∀ n {v : Nat}, v < 2 ^ 64 → crcN n v < 2 ^ 64
  | 0, _, h => h
  | n + 1, _, h => by rw [crcN]; exact crcN_lt n (crc1_lt h)
theorem crcB_lt {v b : Nat} (h : v < 2 ^ 64) (hb : b < 256) : crcB v b < 2 ^ 64 := crcN_lt 8 (Nat.xor_lt_two_pow h (by omega))
theorem crcL_lt : ∀ (l : List Nat) {v : Nat}, v < 2 ^ 64 → (∀ b ∈ l, b < 256) → crcL v l < 2 ^ 64
  | [], _, h, _ => h
  | b :: l, _, h, hl => crcL_lt l (crcB_lt h (hl b (List.mem_cons_self ..))) (fun c hc => hl c (List.mem_cons_of_mem _ hc))
theorem crc4_lt {v : Nat} (h : v < 2 ^ 64) : crc4 v < 2 ^ 64 := by rw [crc4_eq]; exact crcN_lt 4 h
theorem crcAll_lt : crcAll < 2 ^ 64 := by decide
theorem crc_lt (l : List Nat) : crc l < 2 ^ 64 := Nat.lt_of_le_of_lt (Nat.sub_le _ _) crcAll_lt
theorem crcTab_lt : ∀ l : Fin 16, crcTab.getD l.val 0 < 2 ^ 64 := by decide +kernel
end Go.Proofs.YtkpcmfgeanlcnabDoor

/-
  What the document's call that sums bytes answers.
-/
namespace Go.Proofs.YtkpcmfgeanlcnabDoor
open Go.RowKit

theorem ret_u64 {a b : Int} (h : a = b) : Ending.returned (.int .u64 a) = .returned (.int .u64 b) := by rw [h]
theorem ofInt_u64' (a : Nat) (ha : a < 2 ^ 64) : (BitVec.ofInt 64 (a : Int)).toNat = a := by
  rw [BitVec.ofInt_natCast, BitVec.toNat_ofNat]; exact Nat.mod_eq_of_lt ha
theorem wrap_u64_lt (a : Nat) (ha : a < 2 ^ 64) : IntKind.u64.wrap (a : Int) = (a : Int) := by
  simp [IntKind.wrap, IntKind.bits, IntKind.signed]; omega
theorem u64_xor_lt {a b : Nat} (ha : a < 2 ^ 64) (hb : b < 2 ^ 64) : bits .xor .u64 (a : Int) (b : Int) = ((a ^^^ b : Nat) : Int) := by
  show IntKind.u64.wrap ((BitVec.ofInt 64 (a : Int) ^^^ BitVec.ofInt 64 (b : Int)).toNat : Int) = _
  rw [BitVec.toNat_xor, ofInt_u64' a ha, ofInt_u64' b hb, wrap_u64_lt _ (Nat.xor_lt_two_pow ha hb)]
theorem u64_and15 {a : Nat} (ha : a < 2 ^ 64) : bits .and .u64 (a : Int) 15 = ((a % 16 : Nat) : Int) := by
  show IntKind.u64.wrap ((BitVec.ofInt 64 (a : Int) &&& BitVec.ofInt 64 ((15 : Nat) : Int)).toNat : Int) = _
  have h := Nat.and_two_pow_sub_one_eq_mod a 4
  have h15 : a &&& 15 = a % 16 := h
  rw [BitVec.toNat_and, ofInt_u64' a ha, ofInt_u64' 15 (by omega), h15, wrap_u64_lt _ (by omega)]
theorem u64_shr4 {a : Nat} : ((a : Nat) : Int) / 16 = ((a / 16 : Nat) : Int) := by omega
theorem all_xor {s : Nat} (hs : s < 2 ^ 64) : crcAll ^^^ s = crcAll - s := by
  have h : (BitVec.allOnes 64 ^^^ BitVec.ofNat 64 s).toNat = (~~~ BitVec.ofNat 64 s).toNat := by rw [BitVec.allOnes_xor]
  rw [BitVec.toNat_xor, BitVec.toNat_not, BitVec.toNat_allOnes, BitVec.toNat_ofNat, Nat.mod_eq_of_lt hs] at h
  exact h
theorem u64_val {x y : Int} (h : x = y) : Value.int .u64 x = Value.int .u64 y := by rw [h]
theorem not_u64 {s : Nat} (hs : s < 2 ^ 64) : bits .xor .u64 IntKind.u64.max (s : Int) = ((crcAll - s : Nat) : Int) := by
  have e : IntKind.u64.max = ((crcAll : Nat) : Int) := by decide
  rw [e, u64_xor_lt crcAll_lt hs, all_xor hs]
theorem crcL_cons (v b : Nat) (l : List Nat) : crcL v (b :: l) = crcL (crcB v b) l := rfl
theorem crcL_step {k s x m : Nat} {xs : List Nat} (hk : k < xs.length) (ex : xs.getD k 0 = x) (H : crcL s (xs.drop k) = m) : crcL (crcB s x) (xs.drop (k + 1)) = m := by
  rw [List.drop_eq_getElem_cons hk] at H
  have e : xs[k] = x := by rw [← ex, List.getD_eq_getElem?_getD, List.getElem?_eq_getElem hk]; rfl
  rw [e] at H
  exact (crcL_cons s x _).symm.trans H
/-- What the walk of four bits reckons. -/
theorem four {y : Nat} (hy : y < 2 ^ 64) : ∃ m t z : Nat, m < 16 ∧ t = crcTab.getD m 0 ∧ z < 2 ^ 64 ∧ z = crcN 4 y ∧ bits .and .u64 (y : Int) 15 = (m : Int) ∧ bits .xor .u64 ((y : Int) / 16) (t : Int) = (z : Int) := by
  refine ⟨y % 16, _, crc4 y, Nat.mod_lt _ (by omega), rfl, crc4_lt hy, crc4_eq y, u64_and15 hy, ?_⟩
  rw [u64_shr4, u64_xor_lt (by omega) (crcTab_lt ⟨y % 16, Nat.mod_lt _ (by omega)⟩), crc4]

theorem odd_yes {v : Nat} (h : ((v : Int) % 2 == 1) = true) : v % 2 = 1 := by
  have := of_decide_eq_true h; omega
theorem odd_no {v : Nat} (h : ((v : Int) % 2 == 1) = false) : ¬ v % 2 = 1 := by
  have := of_decide_eq_false h; omega
theorem half_xor {v : Nat} (hv : v < 2 ^ 64) : bits .xor .u64 ((v : Int) / 2) 14514072000185962306 = (((v / 2) ^^^ crcC : Nat) : Int) := by
  have e : (v : Int) / 2 = ((v / 2 : Nat) : Int) := by omega
  rw [e]
  exact u64_xor_lt (by omega) crcC_lt
theorem crcN_odd {j v z : Nat} (hj : j < 8) (h : v % 2 = 1) (H : crcN (8 - j) v = z) : crcN (8 - (j + 1)) ((v / 2) ^^^ crcC) = z := by
  obtain ⟨n, hn⟩ : ∃ n, 8 - j = n + 1 := ⟨8 - j - 1, by omega⟩
  have e : 8 - (j + 1) = n := by omega
  have h1 : crc1 v = (v / 2) ^^^ crcC := by unfold crc1; rw [if_pos h]
  rw [e, ← h1]; rw [hn] at H; exact H
theorem crcN_even {j v z : Nat} (hj : j < 8) (h : ¬ v % 2 = 1) (H : crcN (8 - j) v = z) : crcN (8 - (j + 1)) (v / 2) = z := by
  obtain ⟨n, hn⟩ : ∃ n, 8 - j = n + 1 := ⟨8 - j - 1, by omega⟩
  have e : 8 - (j + 1) = n := by omega
  have h1 : crc1 v = v / 2 := by unfold crc1; rw [if_neg h]
  rw [e, ← h1]; rw [hn] at H; exact H

end Go.Proofs.YtkpcmfgeanlcnabDoor

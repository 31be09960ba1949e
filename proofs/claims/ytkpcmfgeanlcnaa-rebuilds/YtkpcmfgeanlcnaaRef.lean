/-
  What the document's own multiplying and inverting of bytes answer.
-/
import Derived.Test.YtkpcmfgeanlcnaaMul
namespace Go.Proofs.Ytkpcmfgeanlcnaa
open Go.RowKit

theorem ofInt_i64 (a : Nat) (ha : a < 9223372036854775808) : (BitVec.ofInt 64 (a : Int)).toNat = a := by
  rw [BitVec.ofInt_natCast, BitVec.toNat_ofNat]; exact Nat.mod_eq_of_lt (by omega)
theorem i64_xor_nat (a b : Nat) (ha : a < 9223372036854775808) (hb : b < 9223372036854775808) : bits .xor .i64 (a : Int) (b : Int) = ((a ^^^ b : Nat) : Int) := by
  have hx : a ^^^ b < 2 ^ 63 := Nat.xor_lt_two_pow (by omega) (by omega)
  show IntKind.i64.wrap ((BitVec.ofInt 64 (a : Int) ^^^ BitVec.ofInt 64 (b : Int)).toNat : Int) = _
  rw [BitVec.toNat_xor, ofInt_i64 a ha, ofInt_i64 b hb, IntKind.wrap_i64]
  omega
theorem i64_and_nat (a b : Nat) (ha : a < 9223372036854775808) (hb : b < 9223372036854775808) : bits .and .i64 (a : Int) (b : Int) = ((a &&& b : Nat) : Int) := by
  have hx : a &&& b < 2 ^ 63 := Nat.and_lt_two_pow _ (by omega)
  show IntKind.i64.wrap ((BitVec.ofInt 64 (a : Int) &&& BitVec.ofInt 64 (b : Int)).toNat : Int) = _
  rw [BitVec.toNat_and, ofInt_i64 a ha, ofInt_i64 b hb, IntKind.wrap_i64]
  omega
theorem pow_cast (k : Nat) : (2 : Int) ^ k = ((2 ^ k : Nat) : Int) := by simp
theorem shr_cast (x k : Nat) : (x : Int) / 2 ^ k = ((x / 2 ^ k : Nat) : Int) := by simp
theorem i64_bit (x k : Nat) (hx : x < 9223372036854775808) : bits .and .i64 ((x : Int) / 2 ^ k) 1 = ((x / 2 ^ k % 2 : Nat) : Int) := by
  have h : x / 2 ^ k ≤ x := Nat.div_le_self _ _
  rw [shr_cast, show (1 : Int) = ((1 : Nat) : Int) from rfl, i64_and_nat _ _ (by omega) (by omega), Nat.and_one_is_mod]
theorem pow_le_128 {k : Nat} (hk : k < 8) : 2 ^ k ≤ 128 := by
  have : 2 ^ k ≤ 2 ^ 7 := Nat.pow_le_pow_right (by omega) (by omega)
  simpa using this
theorem shl_wrap {x k : Nat} (hx : x < 65536) (hk : k < 8) : wrap64 ((x : Int) * 2 ^ k) = ((x * 2 ^ k : Nat) : Int) := by
  have h1 := pow_le_128 hk
  have h2 : x * 2 ^ k ≤ 65536 * 128 := Nat.mul_le_mul (by omega) h1
  have e : (x : Int) * 2 ^ k = ((x * 2 ^ k : Nat) : Int) := by simp
  rw [e]
  exact IntWalk.wrap64_in _ (by omega)
theorem shl_lt {x k : Nat} (hx : x < 512) (hk : k < 8) : x * 2 ^ k < 65536 := by
  have h1 := pow_le_128 hk
  have h2 : x * 2 ^ k ≤ 511 * 128 := Nat.mul_le_mul (by omega) h1
  omega
theorem xor_lt16 {a b : Nat} (ha : a < 65536) (hb : b < 65536) : a ^^^ b < 65536 := Nat.xor_lt_two_pow (n := 16) ha hb

theorem refP_yes {a b k p : Nat} (h : b / 2 ^ k % 2 = 1) (H : p = refP a b k) : p ^^^ (a * 2 ^ k) = refP a b (k + 1) := by
  rw [refP, if_pos h, H]
theorem refP_no {a b k p : Nat} (h : ¬ b / 2 ^ k % 2 = 1) (H : p = refP a b k) : p = refP a b (k + 1) := by
  rw [refP, if_neg h, H]
theorem refM_yes {n p m : Nat} (h : p / 2 ^ (8 + n) % 2 = 1) (H : refM (n + 1) p = m) : refM n (p ^^^ (285 * 2 ^ n)) = m := by
  rw [refM, if_pos h] at H; exact H
theorem refM_no {n p m : Nat} (h : ¬ p / 2 ^ (8 + n) % 2 = 1) (H : refM (n + 1) p = m) : refM n p = m := by
  rw [refM, if_neg h] at H; exact H

theorem bit_yes {x k : Nat} (hx : x < 9223372036854775808) (h : (bits .and .i64 ((x : Int) / 2 ^ k) 1 == 1) = true) : x / 2 ^ k % 2 = 1 := by
  rw [i64_bit x k hx] at h
  have h := of_decide_eq_true h
  omega
theorem bit_no {x k : Nat} (hx : x < 9223372036854775808) (h : (bits .and .i64 ((x : Int) / 2 ^ k) 1 == 1) = false) : ¬ x / 2 ^ k % 2 = 1 := by
  intro h1
  rw [i64_bit x k hx, h1] at h
  exact absurd h (by decide)
theorem xor_shl_i64 {p x k : Nat} (hp : p < 65536) (hx : x < 512) (hk : k < 8) : bits .xor .i64 (p : Int) (wrap64 ((x : Int) * 2 ^ k)) = ((p ^^^ (x * 2 ^ k) : Nat) : Int) := by
  have := shl_lt hx hk
  rw [shl_wrap (by omega) hk, i64_xor_nat _ _ (by omega) (by omega)]

theorem xor_shl_285 {p k : Nat} (hp : p < 65536) (hk : k < 8) : bits .xor .i64 (p : Int) (wrap64 (285 * 2 ^ k)) = ((p ^^^ (285 * 2 ^ k) : Nat) : Int) :=
  xor_shl_i64 (x := 285) hp (by omega) hk
theorem ref_end {q a b : Nat} (h : q = refM 7 (refP a b 8)) : (q : Int) % 256 = ((refMul a b : Nat) : Int) := by
  rw [refMul, ← h]; simp

set_option maxHeartbeats 1000000 in
set_option maxRecDepth 100000 in
theorem rmul_any (a b : Nat) (ha : a < 256) (hb : b < 256) (w : World) :
    Calls Try.prog 9 #[.int .u8 (a : Int), .int .u8 (b : Int)] w fun e w' => e = .returned (.int .u8 (refMul a b : Nat)) ∧ w' = w := by
  go_enter Try.func9, Try.ntmps9
  go_wp2
  go_loop [5, 6] (fun vp vi => ∃ k p : Nat, k ≤ 8 ∧ p < 65536 ∧ vp = .int .i64 (p : Int) ∧ vi = .int .i64 (k : Int) ∧ Hid (p = refP a b k)) (fun _ i => 8 - (intOf i).toNat)
  case atStart => exact ⟨0, 0, by omega, by omega, rfl, rfl, rfl⟩
  case round =>
    obtain ⟨k, p, hk, hp, rfl, rfl, H⟩ := hrel
    by_cases hlt : k < 8
    · go_wp2
      · have h1 : (bits .and .i64 ((b : Int) / 2 ^ k) 1 == 1) = true := by assumption
        have h2 := bit_yes (by omega) h1
        clear h1
        go_round
        case rel => exact ⟨k + 1, p ^^^ (a * 2 ^ k), by omega, xor_lt16 hp (shl_lt (by omega) hlt), i64_val (xor_shl_i64 hp (by omega) hlt), by go_num, refP_yes h2 H.out⟩
        case measure => simp [intOf]; omega
      · have h1 : (bits .and .i64 ((b : Int) / 2 ^ k) 1 == 1) = false := by assumption
        have h2 := bit_no (by omega) h1
        clear h1
        go_round
        case rel => exact ⟨k + 1, p, by omega, hp, rfl, by go_num, refP_no h2 H.out⟩
        case measure => simp [intOf]; omega
    · have e : k = 8 := by omega
      subst e
      have H2 : Hid (refM 7 p = refM 7 (refP a b 8)) := by show refM 7 p = _; rw [H.out]
      go_wp2
      go_loop [5, 7] (fun vp vi => ∃ j p : Nat, 7 ≤ j ∧ j ≤ 14 ∧ p < 65536 ∧ vp = .int .i64 (p : Int) ∧ vi = .int .i64 (j : Int) ∧ Hid (refM (j - 7) p = refM 7 (refP a b 8))) (fun _ i => (intOf i).toNat)
      case atStart => exact ⟨14, p, by omega, by omega, hp, rfl, rfl, H2.out⟩
      case round =>
        obtain ⟨j, q, hj1, hj2, hq, rfl, rfl, G⟩ := hrel
        by_cases hge : 8 ≤ j
        · obtain ⟨n, rfl⟩ : ∃ n, j = 8 + n := ⟨j - 8, by omega⟩
          have G2 : Hid (refM (n + 1) q = refM 7 (refP a b 8)) := by
            have := G.out
            rw [show 8 + n - 7 = n + 1 by omega] at this
            exact this
          clear G
          go_wp2
          · have h1 : (bits .and .i64 ((q : Int) / 2 ^ (8 + n)) 1 == 1) = true := by assumption
            have h2 := bit_yes (by omega) h1
            clear h1
            go_round
            case rel => exact ⟨8 + n - 1, q ^^^ (285 * 2 ^ n), by omega, by omega, xor_lt16 hq (shl_lt (by omega) (by omega)), i64_val (xor_shl_285 hq (by omega)), i64_val (by omega), by rw [show 8 + n - 1 - 7 = n by omega]; exact refM_yes h2 G2.out⟩
            case measure => simp [intOf]; omega
          · have h1 : (bits .and .i64 ((q : Int) / 2 ^ (8 + n)) 1 == 1) = false := by assumption
            have h2 := bit_no (by omega) h1
            clear h1
            go_round
            case rel => exact ⟨8 + n - 1, q, by omega, by omega, hq, rfl, i64_val (by omega), by rw [show 8 + n - 1 - 7 = n by omega]; exact refM_no h2 G2.out⟩
            case measure => simp [intOf]; omega
        · have e : j = 7 := by omega
          subst e
          have HG : Hid (q = refM 7 (refP a b 8)) := G.out
          clear G
          go_wp2
          go_ret
          exact ⟨ret_int (ref_end HG.out), rfl⟩

/-- The document's search, as plain numbers: from b on, n of them. -/
def refFind (a : Nat) : Nat → Nat → Nat
  | 0, _ => 0
  | n + 1, b => if refMul a b = 1 then b else refFind a n (b + 1)
theorem refFind_eq {a : Nat} (ha : a < 256) : ∀ n b, 1 ≤ b → b + n = 256 → (∀ c, 1 ≤ c → c < b → mul a c ≠ 1) → refFind a n b = inv a
  | 0, b, h1, h2, h => by
    rw [refFind]
    by_cases h0 : a = 0
    · subst h0; exact inv_zero.symm
    · have hi := inv_lt ha
      exact absurd (mul_inv ha h0) (h _ (by have := inv_ne_zero ha h0; omega) (by omega))
  | n + 1, b, h1, h2, h => by
    rw [refFind]
    have hb : b < 256 := by omega
    split
    · rename_i h3
      rw [refMul_eq ha hb] at h3
      exact inv_unique ha hb h3
    · rename_i h3
      rw [refMul_eq ha hb] at h3
      refine refFind_eq ha n (b + 1) (by omega) (by omega) (fun c c1 c2 => ?_)
      by_cases e : c = b
      · subst e; exact h3
      · exact h c c1 (by omega)
theorem refFind_inv {a : Nat} (ha : a < 256) : refFind a 255 1 = inv a := refFind_eq ha 255 1 (by omega) (by omega) (fun c h1 h2 => by omega)
theorem refFind_yes {a b n m : Nat} (h : refMul a b = 1) (H : refFind a (n + 1) b = m) : b = m := by
  rw [refFind, if_pos h] at H; exact H
theorem refFind_no {a b n m : Nat} (h : ¬ refMul a b = 1) (H : refFind a (n + 1) b = m) : refFind a n (b + 1) = m := by
  rw [refFind, if_neg h] at H; exact H

set_option maxHeartbeats 1000000 in
set_option maxRecDepth 100000 in
theorem rinv_any (a : Nat) (ha : a < 256) (w : World) :
    Calls Try.prog 11 #[.int .u8 (a : Int)] w fun e w' => e = .returned (.int .u8 (inv a : Nat)) ∧ w' = w := by
  go_enter Try.func11, Try.ntmps11
  go_wp2
  go_loop [3] (fun vi => ∃ b : Nat, 1 ≤ b ∧ b ≤ 256 ∧ vi = .int .i64 (b : Int) ∧ Hid (refFind a (256 - b) b = inv a)) (fun i => 256 - (intOf i).toNat)
  case atStart => exact ⟨1, by omega, by omega, rfl, refFind_inv ha⟩
  case round =>
    obtain ⟨b, hb1, hb2, rfl, H⟩ := hrel
    by_cases hlt : b < 256
    · have H2 : Hid (refFind a ((255 - b) + 1) b = inv a) := by
        have := H.out
        rw [show 256 - b = (255 - b) + 1 by omega] at this
        exact this
      clear H
      go_wp2_with (first | (go_at_call 9; refine (rmul_any _ _ (by assumption) (by assumption) _).mono ?_; rintro e w' ⟨rfl, rfl⟩))
      · have h1 : (((refMul a b : Nat) : Int) == 1) = true := by assumption
        have h2 : refMul a b = 1 := by have := of_decide_eq_true h1; omega
        go_ret
        exact ⟨ret_int (by rw [← refFind_yes h2 H2.out]), rfl⟩
      · have h1 : (((refMul a b : Nat) : Int) == 1) = false := by assumption
        have h2 : ¬ refMul a b = 1 := by have := of_decide_eq_false h1; omega
        go_round
        case rel => exact ⟨b + 1, by omega, by omega, by go_num, by rw [show 256 - (b + 1) = 255 - b by omega]; exact refFind_no h2 H2.out⟩
        case measure => simp [intOf]; omega
    · have e : b = 256 := by omega
      subst e
      have HG : Hid (0 = inv a) := H.out
      clear H
      go_wp2
      go_ret
      exact ⟨ret_int (by rw [← HG.out]; rfl), rfl⟩
theorem rmul_eq (a b : Nat) (ha : a < 256) (hb : b < 256) (w : World) :
    Calls Try.prog 9 #[.int .u8 (a : Int), .int .u8 (b : Int)] w fun e w' => e = .returned (.int .u8 (mul a b : Nat)) ∧ w' = w := by
  have h := rmul_any a b ha hb w
  rw [refMul_eq ha hb] at h
  exact h
theorem byte_of (a : Int) : ∃ x : Nat, x < 256 ∧ a % 256 = (x : Int) := ⟨(a % 256).toNat, by omega, by omega⟩
end Go.Proofs.Ytkpcmfgeanlcnaa

/-
  What the calls that multiply and invert bytes answer: the program's and the document's.
-/
import Derived.Test.YtkpcmfgeanlcnaaProg
import Derived.Test.YtkpcmfgeanlcnaaField
import Derived.WalkKit
import Derived.WalkSpells
import Derived.WalkLawsBesides
namespace Go.Proofs.Ytkpcmfgeanlcnaa
open Go.RowKit

theorem ret_int {k : IntKind} {a b : Int} (h : a = b) : Ending.returned (.int k a) = .returned (.int k b) := by rw [h]

theorem tx_hi {a : Nat} (h : 128 ≤ a) : bits .xor .u8 ((a : Int) * 2 % 256) 29 = ((tx a : Nat) : Int) := by
  have e : ((a : Int) * 2 % 256) = ((a * 2 % 256 : Nat) : Int) := by omega
  rw [e, show (29 : Int) = ((29 : Nat) : Int) from rfl, u8_xor_nat _ _ (by omega) (by omega), tx, if_pos h, Nat.mul_comm]
theorem tx_lo {a : Nat} (h : ¬ 128 ≤ a) : (a : Int) * 2 = ((tx a : Nat) : Int) := by
  rw [tx, if_neg h]; omega

set_option maxHeartbeats 400000 in
set_option maxRecDepth 100000 in
theorem timesX_any (a : Nat) (ha : a < 256) (w : World) :
    Calls Try.prog 32 #[.int .u8 (a : Int)] w fun e w' => e = .returned (.int .u8 (tx a : Nat)) ∧ w' = w := by
  by_cases h : 128 ≤ a
  · go_enter Try.func32, Try.ntmps32
    go_wp2
    go_ret
    exact ⟨ret_int (tx_hi h), rfl⟩
  · go_enter Try.func32, Try.ntmps32
    go_wp2
    go_ret
    exact ⟨ret_int (tx_lo h), rfl⟩

theorem u8_val {x y : Int} (h : x = y) : Value.int .u8 x = Value.int .u8 y := by rw [h]
theorem i64_val {x y : Int} (h : x = y) : Value.int .i64 x = Value.int .i64 y := by rw [h]
theorem u8_and1 (y : Nat) (hy : y < 256) : bits .and .u8 (y : Int) 1 = ((y % 2 : Nat) : Int) := by
  rw [show (1 : Int) = ((1 : Nat) : Int) from rfl, u8_and_nat _ _ hy (by omega), Nat.and_one_is_mod]
theorem u8_xor_b {x y : Nat} (hx : x < 256) (hy : y < 256) : bits .xor .u8 (x : Int) (y : Int) = ((x ^^^ y : Nat) : Int) := u8_xor_nat _ _ hx hy
theorem mulN_step {k p x y m : Nat} (hk : k < 8) (H : mulN (8 - k) p x y = m) :
    mulN (8 - (k + 1)) (if y % 2 = 1 then p ^^^ x else p) (tx x) (y / 2) = m := by
  obtain ⟨n, hn⟩ : ∃ n, 8 - k = n + 1 := ⟨8 - k - 1, by omega⟩
  have e : 8 - (k + 1) = n := by omega
  rw [e]; rw [hn, mulN] at H; exact H

set_option maxHeartbeats 400000 in
set_option maxRecDepth 100000 in
theorem mul_any (a b : Nat) (ha : a < 256) (hb : b < 256) (w : World) :
    Calls Try.prog 19 #[.int .u8 (a : Int), .int .u8 (b : Int)] w fun e w' => e = .returned (.int .u8 (mul a b : Nat)) ∧ w' = w := by
  go_enter Try.func19, Try.ntmps19
  go_wp2
  go_loop [0, 1, 5, 6] (fun va vb vp vi => ∃ k p x y : Nat, k ≤ 8 ∧ p < 256 ∧ x < 256 ∧ y < 256 ∧ va = .int .u8 (x : Int) ∧ vb = .int .u8 (y : Int) ∧ vp = .int .u8 (p : Int) ∧ vi = .int .i64 (k : Int) ∧ Hid (mulN (8 - k) p x y = mul a b)) (fun _ _ _ i => 8 - (intOf i).toNat)
  case atStart => exact ⟨0, 0, a, b, by omega, by omega, ha, hb, rfl, rfl, rfl, rfl, rfl⟩
  case round =>
    obtain ⟨k, p, x, y, hk, hp, hx, hy, rfl, rfl, rfl, rfl, H⟩ := hrel
    by_cases hlt : k < 8
    · have hand := u8_and1 y hy
      go_wp2_with (first | (go_at_call 32; refine (timesX_any _ (by assumption) _).mono ?_; rintro e w' ⟨rfl, rfl⟩))
      · have h1 : ((y : Int) % 2 == 1) = true := by assumption
        have h2 : y % 2 = 1 := by simp at h1; omega
        have G := mulN_step hlt H.out
        rw [if_pos h2] at G
        go_round
        case rel => exact ⟨k + 1, p ^^^ x, tx x, y / 2, by omega, xor_lt hp hx, tx_lt hx, by omega, rfl, u8_val (by omega), u8_val (u8_xor_b hp hx), by go_num, G⟩
        case measure => simp [intOf]; omega
      · have h1 : ((y : Int) % 2 == 1) = false := by assumption
        have h2 : ¬ y % 2 = 1 := by simp at h1; omega
        have G := mulN_step hlt H.out
        rw [if_neg h2] at G
        go_round
        case rel => exact ⟨k + 1, p, tx x, y / 2, by omega, hp, tx_lt hx, by omega, rfl, u8_val (by omega), rfl, by go_num, G⟩
        case measure => simp [intOf]; omega
    · have e : k = 8 := by omega
      subst e
      have G : p = mul a b := H.out
      have HG : Hid (p = mul a b) := G
      clear G H
      go_wp2
      go_ret
      exact ⟨ret_int (by rw [HG.out]), rfl⟩

set_option maxHeartbeats 400000 in
set_option maxRecDepth 100000 in
theorem cmul_any (a b : Nat) (ha : a < 256) (hb : b < 256) (w : World) :
    Calls Try.prog 8 #[.int .u8 (a : Int), .int .u8 (b : Int)] w fun e w' => e = .returned (.int .u8 (mul a b : Nat)) ∧ w' = w := by
  go_enter Try.func8, Try.ntmps8
  go_wp2_with (first | (go_at_call 19; refine (mul_any _ _ ha hb _).mono ?_; rintro e w' ⟨rfl, rfl⟩))
  go_ret
  exact ⟨rfl, rfl⟩

theorem invN_step {k p v m : Nat} (hk : k < 7) (H : invN (7 - k) p v = m) : invN (7 - (k + 1)) (mul p p) (mul v (mul p p)) = m := by
  obtain ⟨n, hn⟩ : ∃ n, 7 - k = n + 1 := ⟨7 - k - 1, by omega⟩
  have e : 7 - (k + 1) = n := by omega
  rw [e]; rw [hn, invN] at H; exact H

set_option maxHeartbeats 400000 in
set_option maxRecDepth 100000 in
theorem inv_any (a : Nat) (ha : a < 256) (w : World) :
    Calls Try.prog 20 #[.int .u8 (a : Int)] w fun e w' => e = .returned (.int .u8 (inv a : Nat)) ∧ w' = w := by
  go_enter Try.func20, Try.ntmps20
  go_wp2
  go_loop [3, 4, 6] (fun vp vv vi => ∃ k p v : Nat, k ≤ 7 ∧ p < 256 ∧ v < 256 ∧ vp = .int .u8 (p : Int) ∧ vv = .int .u8 (v : Int) ∧ vi = .int .i64 (k : Int) ∧ Hid (invN (7 - k) p v = inv a)) (fun _ _ i => 7 - (intOf i).toNat)
  case atStart => exact ⟨0, a, 1, by omega, ha, by omega, rfl, rfl, rfl, rfl⟩
  case round =>
    obtain ⟨k, p, v, hk, hp, hv, rfl, rfl, rfl, H⟩ := hrel
    by_cases hlt : k < 7
    · have hpp : mul p p < 256 := mul_lt hp
      go_wp2_with (first | (go_at_call 19; refine (mul_any _ _ (by assumption) (by assumption) _).mono ?_; rintro e w' ⟨rfl, rfl⟩))
      go_round
      case rel => exact ⟨k + 1, mul p p, mul v (mul p p), by omega, mul_lt hp, mul_lt hv, rfl, rfl, by go_num, invN_step hlt H.out⟩
      case measure => simp [intOf]; omega
    · have e : k = 7 := by omega
      subst e
      have HG : Hid (v = inv a) := H.out
      clear H
      go_wp2
      go_ret
      exact ⟨ret_int (by rw [HG.out]), rfl⟩

set_option maxHeartbeats 400000 in
set_option maxRecDepth 100000 in
theorem cinv_any (a : Nat) (ha : a < 256) (w : World) :
    Calls Try.prog 10 #[.int .u8 (a : Int)] w fun e w' => e = .returned (.int .u8 (inv a : Nat)) ∧ w' = w := by
  go_enter Try.func10, Try.ntmps10
  go_wp2_with (first | (go_at_call 20; refine (inv_any _ ha _).mono ?_; rintro e w' ⟨rfl, rfl⟩))
  go_ret
  exact ⟨rfl, rfl⟩
end Go.Proofs.Ytkpcmfgeanlcnaa

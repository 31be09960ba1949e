/-
  What the calls that multiply and invert bytes answer: the program's and the document's.
-/
import Derived.Test.YtkpcmfgeanlcnabDoorProg
import Derived.Test.YtkpcmfgeanlcnabDoorField
import Derived.WalkKit
import Derived.WalkSpells
import Derived.WalkLawsBesides
import Derived.Deep.OwnRows
namespace Go.Proofs.YtkpcmfgeanlcnabDoor
open Go.RowKit

theorem ret_int {k : IntKind} {a b : Int} (h : a = b) : Ending.returned (.int k a) = .returned (.int k b) := by rw [h]

theorem tx_hi {a : Nat} (h : 128 ≤ a) : bits .xor .u8 ((a : Int) * 2 % 256) 29 = ((tx a : Nat) : Int) := by
  have e : ((a : Int) * 2 % 256) = ((a * 2 % 256 : Nat) : Int) := by omega
  rw [e, show (29 : Int) = ((29 : Nat) : Int) from rfl, u8_xor_nat _ _ (by omega) (by omega), tx, if_pos h, Nat.mul_comm]
theorem tx_lo {a : Nat} (h : ¬ 128 ≤ a) : (a : Int) * 2 = ((tx a : Nat) : Int) := by
  rw [tx, if_neg h]; omega

set_option maxHeartbeats 400000 in
set_option maxRecDepth 100000 in
theorem timesX_any (a : Nat) (ha : a < 256) (w : World) :
    Calls Tryd.prog 72 #[.int .u8 (a : Int)] w fun e w' => e = .returned (.int .u8 (tx a : Nat)) ∧ w' = w := by
  by_cases h : 128 ≤ a
  · go_enter Tryd.func72, Tryd.ntmps72
    go_wp2
    go_ret
    exact ⟨ret_int (tx_hi h), rfl⟩
  · go_enter Tryd.func72, Tryd.ntmps72
    go_wp2
    go_ret
    exact ⟨ret_int (tx_lo h), rfl⟩

theorem u8_val {x y : Int} (h : x = y) : Value.int .u8 x = Value.int .u8 y := by rw [h]
theorem i64_val {x y : Int} (h : x = y) : Value.int .i64 x = Value.int .i64 y := by rw [h]
theorem u8_and1 (y : Nat) (hy : y < 256) : bits .and .u8 (y : Int) 1 = ((y % 2 : Nat) : Int) := by
  rw [show (1 : Int) = ((1 : Nat) : Int) from rfl, u8_and_nat _ _ hy (by omega), Nat.and_one_is_mod]
theorem u8_xor_b {x y : Nat} (hx : x < 256) (hy : y < 256) : bits .xor .u8 (x : Int) (y : Int) = ((x ^^^ y : Nat) : Int) := u8_xor_nat _ _ hx hy
theorem mulN_step {k p x y m : Nat} (hk : k < 8) (H : mulN (8 - k) p x y = m) :
    mulN (8 - (k + 1)) (if y % 2 = 1 then p ^^^ x else p) (tx x) (y / 2) = m := by
  obtain ⟨n, hn⟩ : ∃ n, 8 - k = n + 1 := ⟨8 - k - 1, by omega⟩
  have e : 8 - (k + 1) = n := by omega
  rw [e]; rw [hn, mulN] at H; exact H

set_option maxHeartbeats 400000 in
set_option maxRecDepth 100000 in
theorem mul_any (a b : Nat) (ha : a < 256) (hb : b < 256) (w : World) :
    Calls Tryd.prog 70 #[.int .u8 (a : Int), .int .u8 (b : Int)] w fun e w' => e = .returned (.int .u8 (mul a b : Nat)) ∧ w' = w := by
  go_enter Tryd.func70, Tryd.ntmps70
  go_wp2
  go_loop [0, 1, 5, 6] (fun va vb vp vi => ∃ k p x y : Nat, k ≤ 8 ∧ p < 256 ∧ x < 256 ∧ y < 256 ∧ va = .int .u8 (x : Int) ∧ vb = .int .u8 (y : Int) ∧ vp = .int .u8 (p : Int) ∧ vi = .int .i64 (k : Int) ∧ Hid (mulN (8 - k) p x y = mul a b)) (fun _ _ _ i => 8 - (intOf i).toNat)
  case atStart => exact ⟨0, 0, a, b, by omega, by omega, ha, hb, rfl, rfl, rfl, rfl, rfl⟩
  case round =>
    obtain ⟨k, p, x, y, hk, hp, hx, hy, rfl, rfl, rfl, rfl, H⟩ := hrel
    by_cases hlt : k < 8
    · have hand := u8_and1 y hy
      go_wp2_with (first | (go_at_call 72; refine (timesX_any _ (by assumption) _).mono ?_; rintro e w' ⟨rfl, rfl⟩))
      · have h1 : ((y : Int) % 2 == 1) = true := by assumption
        have h2 : y % 2 = 1 := by simp at h1; omega
        have G := mulN_step hlt H.out
        rw [if_pos h2] at G
        go_round
        case rel => exact ⟨k + 1, p ^^^ x, tx x, y / 2, by omega, xor_lt hp hx, tx_lt hx, by omega, rfl, u8_val (by omega), u8_val (u8_xor_b hp hx), by go_num, G⟩
        case measure => simp [intOf]; omega
      · have h1 : ((y : Int) % 2 == 1) = false := by assumption
        have h2 : ¬ y % 2 = 1 := by simp at h1; omega
        have G := mulN_step hlt H.out
        rw [if_neg h2] at G
        go_round
        case rel => exact ⟨k + 1, p, tx x, y / 2, by omega, hp, tx_lt hx, by omega, rfl, u8_val (by omega), rfl, by go_num, G⟩
        case measure => simp [intOf]; omega
    · have e : k = 8 := by omega
      subst e
      have G : p = mul a b := H.out
      have HG : Hid (p = mul a b) := G
      clear G H
      go_wp2
      go_ret
      exact ⟨ret_int (by rw [HG.out]), rfl⟩

theorem invN_step {k p v m : Nat} (hk : k < 7) (H : invN (7 - k) p v = m) : invN (7 - (k + 1)) (mul p p) (mul v (mul p p)) = m := by
  obtain ⟨n, hn⟩ : ∃ n, 7 - k = n + 1 := ⟨7 - k - 1, by omega⟩
  have e : 7 - (k + 1) = n := by omega
  rw [e]; rw [hn, invN] at H; exact H

set_option maxHeartbeats 400000 in
set_option maxRecDepth 100000 in
theorem inv_any (a : Nat) (ha : a < 256) (w : World) :
    Calls Tryd.prog 58 #[.int .u8 (a : Int)] w fun e w' => e = .returned (.int .u8 (inv a : Nat)) ∧ w' = w := by
  go_enter Tryd.func58, Tryd.ntmps58
  go_wp2
  go_loop [3, 4, 6] (fun vp vv vi => ∃ k p v : Nat, k ≤ 7 ∧ p < 256 ∧ v < 256 ∧ vp = .int .u8 (p : Int) ∧ vv = .int .u8 (v : Int) ∧ vi = .int .i64 (k : Int) ∧ Hid (invN (7 - k) p v = inv a)) (fun _ _ i => 7 - (intOf i).toNat)
  case atStart => exact ⟨0, a, 1, by omega, ha, by omega, rfl, rfl, rfl, rfl⟩
  case round =>
    obtain ⟨k, p, v, hk, hp, hv, rfl, rfl, rfl, H⟩ := hrel
    by_cases hlt : k < 7
    · have hpp : mul p p < 256 := mul_lt hp
      go_wp2_with (first | (go_at_call 70; refine (mul_any _ _ (by assumption) (by assumption) _).mono ?_; rintro e w' ⟨rfl, rfl⟩))
      go_round
      case rel => exact ⟨k + 1, mul p p, mul v (mul p p), by omega, mul_lt hp, mul_lt hv, rfl, rfl, by go_num, invN_step hlt H.out⟩
      case measure => simp [intOf]; omega
    · have e : k = 7 := by omega
      subst e
      have HG : Hid (v = inv a) := H.out
      clear H
      go_wp2
      go_ret
      exact ⟨ret_int (by rw [HG.out]), rfl⟩

end Go.Proofs.YtkpcmfgeanlcnabDoor

/-
  What the document's own multiplying and inverting of bytes answer.
-/
namespace Go.Proofs.YtkpcmfgeanlcnabDoor
open Go.RowKit

theorem ofInt_i64 (a : Nat) (ha : a < 9223372036854775808) : (BitVec.ofInt 64 (a : Int)).toNat = a := by
  rw [BitVec.ofInt_natCast, BitVec.toNat_ofNat]; exact Nat.mod_eq_of_lt (by omega)
theorem i64_xor_nat (a b : Nat) (ha : a < 9223372036854775808) (hb : b < 9223372036854775808) : bits .xor .i64 (a : Int) (b : Int) = ((a ^^^ b : Nat) : Int) := by
  have hx : a ^^^ b < 2 ^ 63 := Nat.xor_lt_two_pow (by omega) (by omega)
  show IntKind.i64.wrap ((BitVec.ofInt 64 (a : Int) ^^^ BitVec.ofInt 64 (b : Int)).toNat : Int) = _
  rw [BitVec.toNat_xor, ofInt_i64 a ha, ofInt_i64 b hb, IntKind.wrap_i64]
  omega
theorem i64_and_nat (a b : Nat) (ha : a < 9223372036854775808) (hb : b < 9223372036854775808) : bits .and .i64 (a : Int) (b : Int) = ((a &&& b : Nat) : Int) := by
  have hx : a &&& b < 2 ^ 63 := Nat.and_lt_two_pow _ (by omega)
  show IntKind.i64.wrap ((BitVec.ofInt 64 (a : Int) &&& BitVec.ofInt 64 (b : Int)).toNat : Int) = _
  rw [BitVec.toNat_and, ofInt_i64 a ha, ofInt_i64 b hb, IntKind.wrap_i64]
  omega
theorem pow_cast (k : Nat) : (2 : Int) ^ k = ((2 ^ k : Nat) : Int) := by simp
theorem shr_cast (x k : Nat) : (x : Int) / 2 ^ k = ((x / 2 ^ k : Nat) : Int) := by simp
theorem i64_bit (x k : Nat) (hx : x < 9223372036854775808) : bits .and .i64 ((x : Int) / 2 ^ k) 1 = ((x / 2 ^ k % 2 : Nat) : Int) := by
  have h : x / 2 ^ k ≤ x := Nat.div_le_self _ _
  rw [shr_cast, show (1 : Int) = ((1 : Nat) : Int) from rfl, i64_and_nat _ _ (by omega) (by omega), Nat.and_one_is_mod]
theorem pow_le_128 {k : Nat} (hk : k < 8) : 2 ^ k ≤ 128 := by
  have : 2 ^ k ≤ 2 ^ 7 := Nat.pow_le_pow_right (by omega) (by omega)
  simpa using this
theorem shl_wrap {x k : Nat} (hx : x < 65536) (hk : k < 8) : wrap64 ((x : Int) * 2 ^ k) = ((x * 2 ^ k : Nat) : Int) := by
  have h1 := pow_le_128 hk
  have h2 : x * 2 ^ k ≤ 65536 * 128 := Nat.mul_le_mul (by omega) h1
  have e : (x : Int) * 2 ^ k = ((x * 2 ^ k : Nat) : Int) := by simp
  rw [e]
  exact IntWalk.wrap64_in _ (by omega)
theorem shl_lt {x k : Nat} (hx : x < 512) (hk : k < 8) : x * 2 ^ k < 65536 := by
  have h1 := pow_le_128 hk
  have h2 : x * 2 ^ k ≤ 511 * 128 := Nat.mul_le_mul (by omega) h1
  omega
theorem xor_lt16 {a b : Nat} (ha : a < 65536) (hb : b < 65536) : a ^^^ b < 65536 := Nat.xor_lt_two_pow (n := 16) ha hb

theorem refP_yes {a b k p : Nat} (h : b / 2 ^ k % 2 = 1) (H : p = refP a b k) : p ^^^ (a * 2 ^ k) = refP a b (k + 1) := by
  rw [refP, if_pos h, H]
theorem refP_no {a b k p : Nat} (h : ¬ b / 2 ^ k % 2 = 1) (H : p = refP a b k) : p = refP a b (k + 1) := by
  rw [refP, if_neg h, H]
theorem refM_yes {n p m : Nat} (h : p / 2 ^ (8 + n) % 2 = 1) (H : refM (n + 1) p = m) : refM n (p ^^^ (285 * 2 ^ n)) = m := by
  rw [refM, if_pos h] at H; exact H
theorem refM_no {n p m : Nat} (h : ¬ p / 2 ^ (8 + n) % 2 = 1) (H : refM (n + 1) p = m) : refM n p = m := by
  rw [refM, if_neg h] at H; exact H

theorem bit_yes {x k : Nat} (hx : x < 9223372036854775808) (h : (bits .and .i64 ((x : Int) / 2 ^ k) 1 == 1) = true) : x / 2 ^ k % 2 = 1 := by
  rw [i64_bit x k hx] at h
  have h := of_decide_eq_true h
  omega
theorem bit_no {x k : Nat} (hx : x < 9223372036854775808) (h : (bits .and .i64 ((x : Int) / 2 ^ k) 1 == 1) = false) : ¬ x / 2 ^ k % 2 = 1 := by
  intro h1
  rw [i64_bit x k hx, h1] at h
  exact absurd h (by decide)
theorem xor_shl_i64 {p x k : Nat} (hp : p < 65536) (hx : x < 512) (hk : k < 8) : bits .xor .i64 (p : Int) (wrap64 ((x : Int) * 2 ^ k)) = ((p ^^^ (x * 2 ^ k) : Nat) : Int) := by
  have := shl_lt hx hk
  rw [shl_wrap (by omega) hk, i64_xor_nat _ _ (by omega) (by omega)]

theorem xor_shl_285 {p k : Nat} (hp : p < 65536) (hk : k < 8) : bits .xor .i64 (p : Int) (wrap64 (285 * 2 ^ k)) = ((p ^^^ (285 * 2 ^ k) : Nat) : Int) :=
  xor_shl_i64 (x := 285) hp (by omega) hk
theorem ref_end {q a b : Nat} (h : q = refM 7 (refP a b 8)) : (q : Int) % 256 = ((refMul a b : Nat) : Int) := by
  rw [refMul, ← h]; simp

/-- The document's search, as plain numbers: from b on, n of them. -/
def refFind (a : Nat) : Nat → Nat → Nat
  | 0, _ => 0
  | n + 1, b => if refMul a b = 1 then b else refFind a n (b + 1)
theorem refFind_eq {a : Nat} (ha : a < 256) : ∀ n b, 1 ≤ b → b + n = 256 → (∀ c, 1 ≤ c → c < b → mul a c ≠ 1) → refFind a n b = inv a
  | 0, b, h1, h2, h => by
    rw [refFind]
    by_cases h0 : a = 0
    · subst h0; exact inv_zero.symm
    · have hi := inv_lt ha
      exact absurd (mul_inv ha h0) (h _ (by have := inv_ne_zero ha h0; omega) (by omega))
  | n + 1, b, h1, h2, h => by
    rw [refFind]
    have hb : b < 256 := by omega
    split
    · rename_i h3
      rw [refMul_eq ha hb] at h3
      exact inv_unique ha hb h3
    · rename_i h3
      rw [refMul_eq ha hb] at h3
      refine refFind_eq ha n (b + 1) (by omega) (by omega) (fun c c1 c2 => ?_)
      by_cases e : c = b
      · subst e; exact h3
      · exact h c c1 (by omega)
theorem refFind_inv {a : Nat} (ha : a < 256) : refFind a 255 1 = inv a := refFind_eq ha 255 1 (by omega) (by omega) (fun c h1 h2 => by omega)
theorem refFind_yes {a b n m : Nat} (h : refMul a b = 1) (H : refFind a (n + 1) b = m) : b = m := by
  rw [refFind, if_pos h] at H; exact H
theorem refFind_no {a b n m : Nat} (h : ¬ refMul a b = 1) (H : refFind a (n + 1) b = m) : refFind a n (b + 1) = m := by
  rw [refFind, if_neg h] at H; exact H

theorem byte_of (a : Int) : ∃ x : Nat, x < 256 ∧ a % 256 = (x : Int) := ⟨(a % 256).toNat, by omega, by omega⟩
end Go.Proofs.YtkpcmfgeanlcnabDoor

/-
  What the calls that make one row answer: a new row in memory, nothing old turned.
-/
namespace Go.Proofs.YtkpcmfgeanlcnabDoor
open Go.RowKit Go.Deep

theorem Tryd.infoB : (Tryd.prog.info? 5).map (fun i => (i.zero, i.size, i.bytes)) = some (some (.int .u8 0), 1, 1) := by kernel_rfl
theorem Tryd.infoR : (Tryd.prog.info? 29).map (fun i => (i.zero, i.size, i.bytes)) = some (some (.slice none 0 0), 1, 24) := by kernel_rfl

/-- One byte of a row: the document's. -/
def rowV (k i j : Nat) : Nat := if i < k then (if j = i then 1 else 0) else inv ((i ^^^ j) % 256)

/-- A row of bytes is new in w', and all else is as it was in w. -/
structure NewRow (w w' : World) (n : Nat) (f : Nat → Nat) : Prop where
  row : w'.rowIs w.heap.size 5 n (fun j => .int .u8 (f j : Nat))
  size : w'.heap.size = w.heap.size + 1
  below : Below w.heap.size w w'

theorem make_bytes (n : Nat) (hn : n ≤ 128) (w : World) : (Instr.makeSlice 29 (.int .i64 (n : Int)) (.int .i64 (n : Int))).run Tryd.prog w = .ok (.slice (some ⟨w.heap.size, 0, none⟩) n n) (w.alloc (.cells (madeCells #[.int .u8 0] n) 5)) :=
  run_make_row' (P := Tryd.prog) 29 5 (.int .u8 0) 1 Tryd.underlying29 Tryd.infoB rfl .i64 .i64 n (by omega) (by omega) w

theorem newRow_made (w : World) (n : Nat) : NewRow w (w.alloc (.cells (madeCells #[.int .u8 0] n) 5)) n (fun _ => 0) :=
  ⟨World.rowIs_made w (.int .u8 0) n 5, by simp, (Below.refl _ _).alloc (Nat.le_refl _) _⟩
theorem NewRow.set {w w' : World} {n : Nat} {f : Nat → Nat} (h : NewRow w w' n f) (i v : Nat) {g : Nat → Nat} (hg : ∀ j, j < n → g j = if j = i then v else f j) :
    NewRow w (w'.setCell ⟨w.heap.size, i, none⟩ (.int .u8 (v : Int))) n g :=
  ⟨(h.row.set i _).congr (fun j hj => by rw [hg j hj]; split <;> rfl), by simp [h.size], h.below.setCell (Nat.le_refl _) _⟩
theorem NewRow.congr {w w' : World} {n : Nat} {f g : Nat → Nat} (h : NewRow w w' n f) (e : ∀ j, j < n → f j = g j) : NewRow w w' n g :=
  ⟨h.row.congr (fun j hj => by rw [e j hj]), h.size, h.below⟩

theorem make_new (n : Nat) (hn : n ≤ 128) (w : World) : ∃ w1, (Instr.makeSlice 29 (.int .i64 (n : Int)) (.int .i64 (n : Int))).run Tryd.prog w = .ok (.slice (some ⟨w.heap.size, 0, none⟩) n n) w1 ∧ NewRow w w1 n (fun _ => 0) :=
  ⟨_, make_bytes n hn w, newRow_made w n⟩

set_option maxHeartbeats 400000 in
set_option maxRecDepth 100000 in
theorem unitRow_any (k i : Nat) (hk : k ≤ 128) (hi : i < k) (w : World) :
    Calls Tryd.prog 57 #[.int .i64 (k : Int), .int .i64 (i : Int)] w fun e w' => e = .returned (.slice (some ⟨w.heap.size, 0, none⟩) k k) ∧ NewRow w w' k (rowV k i) := by
  obtain ⟨w1, hmk, h0⟩ := make_new k hk w
  have hc : w1.cell? ⟨w.heap.size, i, none⟩ = some (.int .u8 0) := h0.row.cell hi
  have hf : w1.frozen? ⟨w.heap.size, i, none⟩ = false := h0.row.frozen i
  have h1 := h0.set i 1 (g := rowV k i) (fun j hj => by unfold rowV; rw [if_pos hi])
  go_enter Tryd.func57, Tryd.ntmps57
  go_wp2
  go_ret
  exact ⟨rfl, h1⟩

theorem xor_lt128 {a b : Nat} (ha : a < 128) (hb : b < 128) : a ^^^ b < 128 := Nat.xor_lt_two_pow (n := 7) ha hb
theorem rowV_lt {k i j : Nat} : rowV k i j < 256 := by
  unfold rowV
  split
  · split <;> omega
  · exact inv_lt (Nat.mod_lt _ (by omega))

set_option maxHeartbeats 1000000 in
set_option maxRecDepth 100000 in
theorem row_any (k i : Nat) (hk : k ≤ 128) (hi : i < 128) (w : World) :
    Calls Tryd.prog 35 #[.int .i64 (k : Int), .int .i64 (i : Int)] w fun e w' => e = .returned (.slice (some ⟨w.heap.size, 0, none⟩) k k) ∧ NewRow w w' k (rowV k i) := by
  by_cases hik : i < k
  · go_enter Tryd.func35, Tryd.ntmps35
    go_wp2_with (first | (go_at_call 57; refine (unitRow_any _ _ hk hik _).mono ?_; rintro e w' ⟨rfl, h1⟩))
    go_ret
    exact ⟨rfl, by assumption⟩
  · obtain ⟨w1, hmk, h0⟩ := make_new k hk w
    go_enter Tryd.func35, Tryd.ntmps35
    go_wp2
    clear hmk
    go_loopw [6, 17] (fun _ vi wr => ∃ c : Nat, c ≤ k ∧ vi = .int .i64 (c : Int) ∧ NewRow w wr k (fun j => if j < c then rowV k i j else 0)) (fun _ i _ => k - (intOf i).toNat)
    case atStart => exact ⟨0, by omega, rfl, h0.congr (fun j _ => by rw [if_neg (by omega)])⟩
    case round =>
      obtain ⟨c, hc, rfl, hN⟩ := hrel
      clear h0
      by_cases hlt : c < k
      · have hx : bits .xor .i64 (i : Int) (c : Int) = ((i ^^^ c : Nat) : Int) := i64_xor_nat _ _ (by omega) (by omega)
        have hxl := xor_lt128 hi (show c < 128 by omega)
        obtain ⟨x, ex⟩ : ∃ x, i ^^^ c = x := ⟨_, rfl⟩
        rw [ex] at hx hxl
        have hcell : wr.cell? ⟨w.heap.size, c, none⟩ = some (.int .u8 0) := by
          have := hN.row.cell hlt
          rw [if_neg (by omega)] at this
          exact this
        have hfr : wr.frozen? ⟨w.heap.size, c, none⟩ = false := hN.row.frozen c
        have hN2 := hN.set c (inv x) (g := fun j => if j < c + 1 then rowV k i j else 0) (fun j hj => by
          by_cases e : j = c
          · subst e
            rw [if_pos (Nat.lt_succ_self j), if_pos rfl]
            unfold rowV
            rw [if_neg hik, ex, Nat.mod_eq_of_lt (by omega)]
          · rw [if_neg e]
            by_cases hj2 : j < c
            · rw [if_pos hj2, if_pos (by omega)]
            · rw [if_neg hj2, if_neg (by omega)])
        clear ex hN
        go_wp2_with (first | (go_at_call 58; refine (inv_any _ (by omega) _).mono ?_; rintro e w' ⟨rfl, rfl⟩))
        go_roundw
        case rel => exact ⟨c + 1, by omega, by go_num, hN2⟩
        case measure => simp [intOf]; omega
      · have e : c = k := by omega
        subst e
        go_wp2
        go_ret
        exact ⟨rfl, hN.congr (fun j hj => by rw [if_pos hj])⟩

theorem make_lists (n : Nat) (hn : n ≤ 128) (w : World) : (Instr.makeSlice 32 (.int .i64 (n : Int)) (.int .i64 (n : Int))).run Tryd.prog w = .ok (.slice (some ⟨w.heap.size, 0, none⟩) n n) (w.alloc (.cells (madeCells #[.slice none 0 0] n) 29)) :=
  run_make_row' (P := Tryd.prog) 32 29 (.slice none 0 0) 24 Tryd.underlying32 Tryd.infoR rfl .i64 .i64 n (by omega) (by omega) w

/-- The head of a list of rows of which c are made. -/
def headV (B k c i : Nat) : Value := if i < c then .slice (some ⟨B + 1 + i, 0, none⟩) k k else .slice none 0 0
/-- c of n rows of k bytes are made, one block behind the other. -/
structure NewRows (w w' : World) (n k c : Nat) (f : Nat → Nat → Nat) : Prop where
  head : w'.rowIs w.heap.size 29 n (headV w.heap.size k c)
  rows : ∀ i, i < c → w'.rowIs (w.heap.size + 1 + i) 5 k (fun j => .int .u8 (f i j : Nat))
  size : w'.heap.size = w.heap.size + 1 + c
  below : Below w.heap.size w w'

theorem newRows_start (w : World) (n k : Nat) (f : Nat → Nat → Nat) : NewRows w (w.alloc (.cells (madeCells #[.slice none 0 0] n) 29)) n k 0 f :=
  ⟨(World.rowIs_made w (.slice none 0 0) n 29).congr (fun i _ => by unfold headV; rw [if_neg (by omega)]), fun i h => by omega, by simp, (Below.refl _ _).alloc (Nat.le_refl _) _⟩
theorem makeLists_new (n k : Nat) (hn : n ≤ 128) (f : Nat → Nat → Nat) (w : World) : ∃ w1, (Instr.makeSlice 32 (.int .i64 (n : Int)) (.int .i64 (n : Int))).run Tryd.prog w = .ok (.slice (some ⟨w.heap.size, 0, none⟩) n n) w1 ∧ NewRows w w1 n k 0 f :=
  ⟨_, make_lists n hn w, newRows_start w n k f⟩
/-- One row more. -/
theorem NewRows.step {w wr w' : World} {n k c : Nat} {f : Nat → Nat → Nat} (h : NewRows w wr n k c f) (hn : NewRow wr w' k (f c)) :
    NewRows w (w'.setCell ⟨w.heap.size, c, none⟩ (.slice (some ⟨wr.heap.size, 0, none⟩) k k)) n k (c + 1) f := by
  have hz := h.size
  have hb : ∀ j, j < wr.heap.size → w'.heap[j]? = wr.heap[j]? := fun j hj => hn.below.block j hj
  refine ⟨?_, ?_, by rw [show (w'.setCell _ _).heap.size = w'.heap.size from by simp]; rw [hn.size, hz]; omega, (h.below.trans (hn.below.mono (by omega))).setCell (Nat.le_refl _) _⟩
  · refine ((h.head.of_block (hb _ (by omega))).set c _).congr (fun j _ => ?_)
    unfold headV
    by_cases e : j = c
    · subst e; rw [if_pos rfl, if_pos (by omega), hz]
    · rw [if_neg e]
      by_cases hj : j < c
      · rw [if_pos hj, if_pos (by omega)]
      · rw [if_neg hj, if_neg (by omega)]
  · intro i hi
    refine World.rowIs.setOther ?_ (by show w.heap.size + 1 + i ≠ w.heap.size; omega) _
    by_cases e : i = c
    · subst e
      have := hn.row
      rw [hz] at this
      exact this
    · exact (h.rows i (by omega)).of_block (hb _ (by omega))

end Go.Proofs.YtkpcmfgeanlcnabDoor

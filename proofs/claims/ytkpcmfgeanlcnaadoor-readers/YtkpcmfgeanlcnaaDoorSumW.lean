/-
  What the program's calls that sum bytes answer.
-/
import Derived.Test.YtkpcmfgeanlcnaaDoorRSum
namespace Go.Proofs.YtkpcmfgeanlcnaaDoor
open Go.RowKit

set_option maxHeartbeats 400000 in
set_option maxRecDepth 100000 in
theorem sum_row (b off len cap : Nat) (xs : List Nat) (hl : xs.length = len) (hx : ∀ i, i < len → xs.getD i 0 < 256) (hm : len ≤ 9223372036854775807) (w : World) (hc : ∀ i, i < len → w.cell? ⟨b, off + i, none⟩ = some (.int .u8 ((xs.getD i 0 : Nat) : Int)))
    (ht : ∀ i, i < 16 → w.cell? ⟨0, i, none⟩ = some (.int .u64 ((crcTab.getD i 0 : Nat) : Int))) :
    Calls Tryd.prog 17 #[.slice (some ⟨b, off, none⟩) len cap] w fun e w' => e = .returned (.int .u64 (crc xs : Nat)) ∧ w' = w := by
  go_enter Tryd.func17, Tryd.ntmps17
  go_wp2
  go_loop [3, 5, 8] (fun vs vb vi => ∃ k s : Nat, k ≤ len ∧ s < 2 ^ 64 ∧ vs = .int .u64 (s : Int) ∧ vi = .int .i64 (k : Int) ∧ Hid (crcL s (xs.drop k) = crcL crcAll xs)) (fun _ _ i => len - (intOf i).toNat)
  case atStart => exact ⟨0, crcAll, by omega, crcAll_lt, rfl, rfl, rfl⟩
  case round =>
    obtain ⟨k, s, hk, hs, rfl, rfl, H⟩ := hrel
    by_cases hlt : k < len
    · have hcell := hc k hlt
      have hb := hx k hlt
      obtain ⟨x, ex⟩ : ∃ x, xs.getD k 0 = x := ⟨_, rfl⟩
      rw [ex] at hcell hb
      have ey := u64_xor_lt hs (Nat.lt_trans hb (by decide))
      obtain ⟨y, hy⟩ : ∃ y, s ^^^ x = y := ⟨_, rfl⟩
      have ly : y < 2 ^ 64 := hy ▸ Nat.xor_lt_two_pow hs (Nat.lt_trans hb (by decide))
      rw [hy] at ey
      obtain ⟨m1, t1, z1, hm1, ht1, lz1, hz1, e1, e2⟩ := four ly
      obtain ⟨m2, t2, z2, hm2, ht2, lz2, hz2, e3, e4⟩ := four lz1
      have hc1 := ht m1 hm1
      have hc2 := ht m2 hm2
      rw [← ht1] at hc1
      rw [← ht2] at hc2
      have G : Hid (crcL z2 (xs.drop (k + 1)) = crcL crcAll xs) := by
        have hz : z2 = crcB s x := by rw [hz2, hz1, ← crcN_add, ← hy]; rfl
        rw [hz]
        exact crcL_step (by omega) ex H.out
      clear ex hc hx ht ht1 ht2 hz1 hz2 hy H
      go_wp2
      go_round
      case rel => exact ⟨k + 1, z2, by omega, lz2, rfl, by go_num, G⟩
      case measure => simp [intOf]; omega
    · have e : k = xs.length := by omega
      have G : Hid (s = crcL crcAll xs) := by
        have := H.out
        rw [e, List.drop_length] at this
        exact this
      clear H hc hx ht
      go_wp2
      go_ret
      exact ⟨ret_u64 (by rw [not_u64 hs, crc, ← G.out]), rfl⟩

set_option maxHeartbeats 400000 in
set_option maxRecDepth 100000 in
theorem csum_of (v : Value) (r : Int) (w : World) (h : Calls Tryd.prog 17 #[v] w fun e w' => e = .returned (.int .u64 r) ∧ w' = w) :
    Calls Tryd.prog 8 #[v] w fun e w' => e = .returned (.int .u64 r) ∧ w' = w := by
  go_enter Tryd.func8, Tryd.ntmps8
  go_wp2_with (first | (go_at_call 17; refine h.mono ?_; rintro e w' ⟨rfl, rfl⟩))
  go_ret
  exact ⟨rfl, rfl⟩
/-- The program's Sum of a row of bytes, where the table stands as laid. -/
theorem csum_row (b off len cap : Nat) (xs : List Nat) (hl : xs.length = len) (hx : ∀ i, i < len → xs.getD i 0 < 256) (hm : len ≤ 9223372036854775807) (w : World) (hc : ∀ i, i < len → w.cell? ⟨b, off + i, none⟩ = some (.int .u8 ((xs.getD i 0 : Nat) : Int)))
    (ht : ∀ i, i < 16 → w.cell? ⟨0, i, none⟩ = some (.int .u64 ((crcTab.getD i 0 : Nat) : Int))) :
    Calls Tryd.prog 8 #[.slice (some ⟨b, off, none⟩) len cap] w fun e w' => e = .returned (.int .u64 (crc xs : Nat)) ∧ w' = w :=
  csum_of _ _ w (sum_row b off len cap xs hl hx hm w hc ht)

end Go.Proofs.YtkpcmfgeanlcnaaDoor

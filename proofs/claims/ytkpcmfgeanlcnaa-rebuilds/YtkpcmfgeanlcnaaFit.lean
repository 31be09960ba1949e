/-
  Which numbers of parts may be; what Rows answers.
-/
import Derived.Test.YtkpcmfgeanlcnaaSame
namespace Go.Proofs.Ytkpcmfgeanlcnaa
open Go.RowKit Go.Deep

/-- k is 1 to n, and n at most 128. -/
def fitB (k n : Int) : Bool := decide (1 ≤ k ∧ k ≤ n ∧ n ≤ 128)
theorem fitB_yes {k n : Int} (h1 : 1 ≤ k) (h2 : k ≤ n) (h3 : n ≤ 128) : fitB k n = true := decide_eq_true ⟨h1, h2, h3⟩
theorem fitB_no {k n : Int} (h : ¬ (1 ≤ k ∧ k ≤ n ∧ n ≤ 128)) : fitB k n = false := decide_eq_false h

set_option maxHeartbeats 400000 in
set_option maxRecDepth 100000 in
theorem partsFit_any (k n : Int) (w : World) :
    Calls Try.prog 28 #[.int .i64 k, .int .i64 n] w fun e w' => e = .returned (.bool (fitB k n)) ∧ w' = w := by
  by_cases h1 : 1 ≤ k
  · by_cases h2 : k ≤ n
    · by_cases h3 : n ≤ 128
      · have HF : Hid (fitB k n = true) := fitB_yes h1 h2 h3
        go_enter Try.func28, Try.ntmps28
        go_wp2
        go_ret
        exact ⟨ret_bool (by rw [HF.out]), rfl⟩
      · have HF : Hid (fitB k n = false) := fitB_no (by omega)
        go_enter Try.func28, Try.ntmps28
        go_wp2
        go_ret
        exact ⟨ret_bool (by rw [HF.out]), rfl⟩
    · have HF : Hid (fitB k n = false) := fitB_no (by omega)
      go_enter Try.func28, Try.ntmps28
      go_wp2
      go_ret
      exact ⟨ret_bool (by rw [HF.out]), rfl⟩
  · have HF : Hid (fitB k n = false) := fitB_no (by omega)
    go_enter Try.func28, Try.ntmps28
    go_wp2
    go_ret
    exact ⟨ret_bool (by rw [HF.out]), rfl⟩

set_option maxHeartbeats 400000 in
set_option maxRecDepth 100000 in
theorem proper_any (k n : Int) (w : World) :
    Calls Try.prog 21 #[.int .i64 k, .int .i64 n] w fun e w' => e = .returned (.bool (fitB k n)) ∧ w' = w := by
  by_cases h1 : 1 ≤ k
  · by_cases h2 : k ≤ n
    · have h4 : 1 ≤ n := by omega
      by_cases h3 : n ≤ 128
      · have HF : Hid (fitB k n = true) := fitB_yes h1 h2 h3
        go_enter Try.func21, Try.ntmps21
        go_wp2
        go_ret
        exact ⟨ret_bool (by rw [HF.out]), rfl⟩
      · have HF : Hid (fitB k n = false) := fitB_no (by omega)
        go_enter Try.func21, Try.ntmps21
        go_wp2
        go_ret
        exact ⟨ret_bool (by rw [HF.out]), rfl⟩
    · have HF : Hid (fitB k n = false) := fitB_no (by omega)
      go_enter Try.func21, Try.ntmps21
      go_wp2
      go_ret
      exact ⟨ret_bool (by rw [HF.out]), rfl⟩
  · have HF : Hid (fitB k n = false) := fitB_no (by omega)
    go_enter Try.func21, Try.ntmps21
    go_wp2
    go_ret
    exact ⟨ret_bool (by rw [HF.out]), rfl⟩

set_option maxHeartbeats 400000 in
set_option maxRecDepth 100000 in
theorem rowsFace_no (k n : Int) (h : fitB k n = false) (w : World) :
    Calls Try.prog 15 #[.int .i64 k, .int .i64 n] w fun e w' => e = .returned (.tuple #[.slice none 0 0, .int .i64 1]) ∧ w' = w := by
  go_enter Try.func15, Try.ntmps15
  go_wp2_with (go_at_call 28; refine (partsFit_any _ _ _).mono ?_; rintro e w' ⟨rfl, hw'⟩; obtain rfl := hw'.symm)
  go_ret2
  exact ⟨rfl, rfl⟩
set_option maxHeartbeats 400000 in
set_option maxRecDepth 100000 in
theorem rowsFace_yes (k n : Nat) (h1 : 1 ≤ k) (h2 : k ≤ n) (h3 : n ≤ 128) (w : World) :
    Calls Try.prog 15 #[.int .i64 (k : Int), .int .i64 (n : Int)] w fun e w' => e = .returned (.tuple #[.slice (some ⟨w.heap.size, 0, none⟩) n n, .int .i64 0]) ∧ NewRows w w' n k n (rowV k) := by
  have h : fitB k n = true := fitB_yes (by omega) (by omega) (by omega)
  go_enter Try.func15, Try.ntmps15
  go_wp2_with (first | (go_at_call 28; refine (partsFit_any _ _ _).mono ?_; rintro e w' ⟨rfl, hw'⟩; obtain rfl := hw'.symm) | (go_at_call 29; refine (crows_any _ _ (by omega) h3 _).mono ?_; rintro e w' ⟨rfl, hN⟩))
  go_ret2
  exact ⟨rfl, by assumption⟩
set_option maxHeartbeats 400000 in
set_option maxRecDepth 100000 in
theorem num_any (x : Int) (w : World) :
    Calls Try.prog 22 #[.int .i64 x] w fun e w' => e = .returned (.int .i64 x) ∧ w' = w := by
  go_enter Try.func22, Try.ntmps22
  go_wp2
  go_ret
  exact ⟨rfl, rfl⟩
end Go.Proofs.Ytkpcmfgeanlcnaa

/-
  What the statement on Rows answers.
-/
import Derived.Test.YtkpcmfgeanlcnaaFit
namespace Go.Proofs.Ytkpcmfgeanlcnaa
open Go.RowKit Go.Deep

theorem Below.cellRow {w w' : World} {B b n : Nat} {t : TypeId} {f : Nat → Value} (h : Below B w w') (hb : b < B) (hr : w.rowIs b t n f) : w'.rowIs b t n f := hr.of_block (h.block b hb)

set_option maxHeartbeats 400000 in
set_option maxRecDepth 100000 in
theorem rowsLaw_no (k n : Int) (h : fitB k n = false) (w : World) :
    Calls Try.prog 12 #[.int .i64 k, .int .i64 n] w fun e w' => e = .returned (.tuple #[.slice none 0 0, .bool true]) ∧ w' = w := by
  go_enter Try.func12, Try.ntmps12
  go_wp2_with (first | (go_at_call 15; refine (rowsFace_no _ _ h _).mono ?_; rintro e w' ⟨rfl, hw'⟩; obtain rfl := hw'.symm) | (go_at_call 21; refine (proper_any _ _ _).mono ?_; rintro e w' ⟨rfl, hw'⟩; obtain rfl := hw'.symm) | (go_at_call 22; refine (num_any _ _).mono ?_; rintro e w' ⟨rfl, hw'⟩; obtain rfl := hw'.symm))
  go_ret2
  exact ⟨rfl, rfl⟩

set_option maxHeartbeats 1000000 in
set_option maxRecDepth 100000 in
theorem rowsLaw_yes (k n : Nat) (h1 : 1 ≤ k) (h2 : k ≤ n) (h3 : n ≤ 128) (w : World) :
    Calls Try.prog 12 #[.int .i64 (k : Int), .int .i64 (n : Int)] w fun e w' => e = .returned (.tuple #[.slice (some ⟨w.heap.size, 0, none⟩) n n, .bool true]) ∧ ∃ w1, NewRows w w1 n k n (rowV k) ∧ Below w1.heap.size w1 w' := by
  have h : fitB k n = true := fitB_yes (by omega) (by omega) (by omega)
  go_enter Try.func12, Try.ntmps12
  go_wp2_with (first | (go_at_call 15; refine (rowsFace_yes _ _ h1 h2 h3 _).mono ?_; rintro e w1 ⟨rfl, hN⟩) | (go_at_call 21; refine (proper_any _ _ _).mono ?_; rintro e w' ⟨rfl, hw'⟩; obtain rfl := hw'.symm) | (go_at_call 22; refine (num_any _ _).mono ?_; rintro e w' ⟨rfl, hw'⟩; obtain rfl := hw'.symm))
  have hN : NewRows w w1 n k n (rowV k) := by assumption
  go_loopw [9, 10, 11] (fun vi _ _ wr => ∃ c : Nat, c ≤ n ∧ vi = .int .i64 (c : Int) ∧ Below w1.heap.size w1 wr) (fun i _ _ _ => n - (intOf i).toNat)
  case atStart => exact ⟨0, by omega, rfl, Below.refl _ _⟩
  case round =>
    obtain ⟨c, hc, rfl, hbel⟩ := hrel
    by_cases hlt : c < n
    · have hz := hN.size
      have hcell : ∀ w', Below wr.heap.size wr w' → w'.cell? ⟨w.heap.size, c, none⟩ = some (.slice (some ⟨w.heap.size + 1 + c, 0, none⟩) k k) := fun w' hb => by
        have := hbel.size
        rw [hb.cell (p := ⟨w.heap.size, c, none⟩) (by show w.heap.size < wr.heap.size; omega), hbel.cell (p := ⟨w.heap.size, c, none⟩) (by show w.heap.size < w1.heap.size; omega), hN.head.cell hlt]
        unfold headV; rw [if_pos hlt]
      have hold : ∀ w', Below wr.heap.size wr w' → Holds8 w' (.slice (some ⟨w.heap.size + 1 + c, 0, none⟩) k k) (u8s k (rowV k c)) := fun w' hb => by
        have := hbel.size
        exact holds8_rowIs (Below.cellRow hb (by omega) (Below.cellRow hbel (by omega) (hN.rows c hlt))) (fun j _ => rowV_lt) k
      have HZ : Hid (w1.heap.size = w.heap.size + 1 + n) := hz
      clear hz
      go_wp2_with (first
        | (go_at_call 23; refine (rrow_any _ _ (by omega) (by omega) _).mono ?_; rintro e w2 ⟨v2, rfl, hown, hb2⟩; have hc2 := hcell _ hb2; have ho2 := hold _ hb2; have ho3 := holds8_owns hown (fun j _ => rowV_lt); clear hcell hold hown)
        | (go_at_call 24; refine (same_any _ _ _ _ _ (by assumption) (by assumption)).mono ?_; rintro e w' ⟨rfl, hw'⟩; obtain rfl := hw'.symm))
      have hb2 : Below wr.heap.size wr w2 := by assumption
      go_roundw
      case rel => exact ⟨c + 1, by omega, by go_num, hbel.trans (hb2.mono hbel.size)⟩
      case measure => simp [intOf]; omega
    · have e : c = n := by omega
      subst e
      go_wp2
      go_ret2
      exact ⟨rfl, _, hN, hbel⟩
end Go.Proofs.Ytkpcmfgeanlcnaa

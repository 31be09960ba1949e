/-
  When two lists of rows of bytes are told to be the same: run alone.
-/
import Derived.Test.YtkpcmfgeanlcnaaSame
import Derived.BigQuiet
import Derived.KernelRfl
namespace Go.Proofs.Ytkpcmfgeanlcnaa
open Go.RowKit Go.Deep

theorem holds8_heap {w w' : World} {v : Value} {l : List UInt8} (h : Holds8 w v l) (e : w'.heap = w.heap) : Holds8 w' v l := by
  rcases h with h | ⟨a, cap, h1, h2⟩
  · exact .inl h
  · exact .inr ⟨a, cap, h1, fun j hj => by rw [← h2 j hj]; simp only [World.cell?, e]⟩
theorem drewN_add (w : World) (n m : Nat) : (w.drewN n).drewN m = w.drewN (n + m) := by
  simp [World.drewN, Nat.add_assoc]
/-- Lists of lists that hold the same bytes. -/
theorem sameLists_yes (k a b oa ob ca cb : Nat) (va vb : Nat → Value) (l : Nat → List UInt8) (w : World) (hk : k ≤ 9223372036854775806) (ha : ∀ i, i < k → w.cell? ⟨a, oa + i, none⟩ = some (va i)) (hb : ∀ i, i < k → w.cell? ⟨b, ob + i, none⟩ = some (vb i)) (hva : ∀ i, i < k → Holds8 w (va i) (l i)) (hvb : ∀ i, i < k → Holds8 w (vb i) (l i)) :
    Calls Try.prog 27 #[.slice (some ⟨a, oa, none⟩) k ca, .slice (some ⟨b, ob, none⟩) k cb] w fun e w' => e = .returned (.bool true) ∧ ∃ n, w' = w.drewN n := by
  go_enter Try.func27, Try.ntmps27
  go_wp2
  go_loopw [5, 6] (fun vi _ wr => ∃ i : Nat, i ≤ k ∧ vi = .int .i64 ((i : Nat) : Int) ∧ ∃ n, wr = w.drewN n) (fun i _ _ => k - (intOf i).toNat)
  case atStart => exact ⟨0, by omega, rfl, 0, rfl⟩
  case round =>
    obtain ⟨i, hi, rfl, hwr⟩ := hrel
    have hh : ∃ h, h = wr.heap ∧ h = w.heap := ⟨_, rfl, by obtain ⟨n, rfl⟩ := hwr; rfl⟩
    by_cases hlt : i < k
    · have hlt' : (i : Int) < (k : Int) := by omega
      have g0 : wr.cell? ⟨a, oa + i, none⟩ = some (va i) := by obtain ⟨n, rfl⟩ := hwr; exact ha i hlt
      have g1 : wr.cell? ⟨b, ob + i, none⟩ = some (vb i) := by obtain ⟨n, rfl⟩ := hwr; exact hb i hlt
      have cs := fun n => same_any (va i) (vb i) (l i) (l i) (wr.drewN n) (holds8_heap (hva i hlt) (by obtain ⟨h, h1, h2⟩ := hh; exact h1.symm.trans h2)) (holds8_heap (hvb i hlt) (by obtain ⟨h, h1, h2⟩ := hh; exact h1.symm.trans h2))
      rw [show decide (l i = l i) = true from decide_eq_true rfl] at cs
      generalize va i = x at *
      generalize vb i = y at *
      go_wp2_with fail
      go_big_quiet (exact Calls.quiet_of_same (cs _))
      have hwq : ∃ n', wr.drewN nq = w.drewN n' := by obtain ⟨n, rfl⟩ := hwr; exact ⟨n + nq, drewN_add w n nq⟩
      generalize wr.drewN nq = wz at hwq ⊢
      go_wp2
      go_roundw
      case rel => exact ⟨i + 1, by omega, by go_num, hwq⟩
      case measure => simp [intOf]; omega
    · have hnl : ¬ ((i : Int) < (k : Int)) := by omega
      go_wp2
      go_ret
      exact ⟨rfl, hwr⟩
end Go.Proofs.Ytkpcmfgeanlcnaa

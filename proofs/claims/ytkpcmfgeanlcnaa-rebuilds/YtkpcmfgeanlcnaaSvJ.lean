/-
  Columns that are enough and may stand together: run alone.
-/
import Derived.Test.YtkpcmfgeanlcnaaSvI
import Derived.BigQuiet
namespace Go.Proofs.Ytkpcmfgeanlcnaa
open Go.RowKit Go.Deep

theorem zero128 : Try.zeroCells57 = madeCells #[.bool false] 128 := by kernel_rfl

set_option maxHeartbeats 4000000 in
set_option maxRecDepth 100000 in
theorem columnsFit_any (k n b cap : Nat) (q : CL) (w : World) (hk0 : 0 < k) (hk : k ≤ 128) (hn : n ≤ 128) (hx : ∀ i, i < k → q.ix i < n) (hc : CAt w b k q) (hi : ∀ i j, i < k → j < k → i ≠ j → q.ix i ≠ q.ix j) :
    Calls Try.prog 30 #[.int .i64 (k : Int), .int .i64 (n : Int), .slice (some ⟨b, 0, none⟩) k cap] w fun e w' => e = .returned (.bool true) ∧ Below w.heap.size w w' := by
  have h0 : (w.alloc (.cells Try.zeroCells57 57)).rowIs w.heap.size 57 128 (fun _ => .bool false) := by
    rw [zero128]
    exact World.rowIs_made w (.bool false) 128 57
  have hb0 : Below w.heap.size w (w.alloc (.cells Try.zeroCells57 57)) := (Below.refl _ _).alloc (Nat.le_refl _) _
  have hs0 : w.heap.size < (w.alloc (.cells Try.zeroCells57 57)).heap.size := by simp
  go_enter Try.func30, Try.ntmps30
  go_wp2
  generalize w.alloc (.cells Try.zeroCells57 57) = w0 at h0 hb0 hs0 ⊢
  go_loopw [16] (fun vi wr => ∃ c : Nat, c ≤ k ∧ vi = .int .i64 (c : Int) ∧ (∃ sn : Nat → Bool, wr.rowIs w.heap.size 57 128 (fun t => .bool (sn t)) ∧ ∀ t, sn t = true → ∃ i, i < c ∧ q.ix i = t) ∧ Below w.heap.size w wr) (fun i _ => k - (intOf i).toNat)
  case atStart => exact ⟨0, by omega, rfl, ⟨fun _ => false, h0, fun _ h => (by cases h)⟩, hb0⟩
  case round =>
    clear h0 hb0 hs0
    obtain ⟨c, hcc, rfl, ⟨sn, hsn, hse⟩, hbe⟩ := hrel
    by_cases hlt : c < k
    · have hlt' : (c : Int) < (k : Int) := by omega
      have hcw := hc.below hbe
      have g0 := hcw.c0 c hlt
      have g1 := hcw.c1 c hlt
      have hxc := hx c hlt
      have hsf : sn (q.ix c) = false := by
        cases h : sn (q.ix c) with
        | false => rfl
        | true =>
          obtain ⟨i, h1, h2⟩ := hse _ h
          exact absurd h2 (hi i c (by omega) hlt (by omega))
      unfold CL.d at g1
      have sn1 := hsn.alloc (.cells #[.int .i64 ((q.ix c : Nat) : Int), .slice (q.db c) q.L (q.dc c)] 43)
      have be1 := hbe.alloc hbe.size (.cells #[.int .i64 ((q.ix c : Nat) : Int), .slice (q.db c) q.L (q.dc c)] 43)
      have cw1 := hc.below be1
      have d1 := cw1.c1 0 hk0
      unfold CL.d at d1
      have n0 : (wr.alloc (.cells #[.int .i64 ((q.ix c : Nat) : Int), .slice (q.db c) q.L (q.dc c)] 43)).rowIs wr.heap.size 43 2 (fun j => if j = 0 then .int .i64 ((q.ix c : Nat) : Int) else .slice (q.db c) q.L (q.dc c)) :=
          World.rowIs_alloc wr #[.int .i64 ((q.ix c : Nat) : Int), .slice (q.db c) q.L (q.dc c)] 43 _ (fun i hi => by
            have : i = 0 ∨ i = 1 := by simp at hi; omega
            rcases this with rfl | rfl <;> rfl)
      generalize hW1 : wr.alloc (.cells #[.int .i64 ((q.ix c : Nat) : Int), .slice (q.db c) q.L (q.dc c)] 43) = W1 at sn1 be1 n0 d1
      have a0 := n0.cell (i := 0) (by omega)
      have a1 := n0.cell (i := 1) (by omega)
      simp only [if_true, Nat.one_ne_zero, if_false] at a0 a1
      have s0 := sn1.cell (i := q.ix c) (by omega)
      have sf0 := sn1.frozen (q.ix c)
      rw [hsf] at s0
      have sn2 := (sn1.set (q.ix c) (.bool true)).congr (g := fun t => .bool (if t = q.ix c then true else sn t)) (fun t _ => by
        by_cases e : t = q.ix c
        · simp [e]
        · simp [e])
      have be2 := be1.setCell (p := ⟨w.heap.size, q.ix c, none⟩) (Nat.le_refl _) (.bool true)
      have hse2 : ∀ t, (if t = q.ix c then true else sn t) = true → ∃ i, i < c + 1 ∧ q.ix i = t := fun t h => by
        by_cases e : t = q.ix c
        · exact ⟨c, by omega, e.symm⟩
        · rw [if_neg e] at h
          obtain ⟨i, h1, h2⟩ := hse t h
          exact ⟨i, by omega, h2⟩
      simp only [Nat.zero_mul, Nat.zero_add] at d1
      clear hsn hse hbe hcw cw1 hsf sn1 be1 hc hi
      have hx128 : q.ix c < 128 := by omega
      have hxn' : ¬ ((n : Int) ≤ ((q.ix c : Nat) : Int)) := by omega
      generalize q.ix c = x at *
      have hd0 : decide (((x : Nat) : Int) < 0) = false := by simp
      have hd1 : decide (n ≤ x) = false := by simp; omega
      go_wp2_with fail
      go_big_quiet (fail)
      have a0' : (W1.drewN nq).cell? ⟨wr.heap.size, 0, none⟩ = some (.int .i64 ((x : Nat) : Int)) := a0
      have s0' : (W1.drewN nq).cell? ⟨w.heap.size, x, none⟩ = some (.bool false) := s0
      have sf0' : (W1.drewN nq).frozen? ⟨w.heap.size, x, none⟩ = false := sf0
      have sn3 : ((W1.drewN nq).setCell ⟨w.heap.size, x, none⟩ (.bool true)).rowIs w.heap.size 57 128 (fun t => .bool (if t = x then true else sn t)) := sn2.of_block rfl
      have be3 : Below w.heap.size w ((W1.drewN nq).setCell ⟨w.heap.size, x, none⟩ (.bool true)) := ⟨be2.os, be2.tape, be2.output, be2.size, be2.block⟩
      generalize W1.drewN nq = W2 at a0' s0' sf0' sn3 be3 ⊢
      clear a0 a1 s0 sf0 sn2 be2 d1 g0 g1 n0
      go_wp2
      go_roundw
      case rel => exact ⟨c + 1, by omega, by go_num, ⟨_, sn3, hse2⟩, be3⟩
      case measure => simp [intOf]; omega
    · obtain rfl : c = k := by omega
      have hnl : ¬ ((c : Int) < (c : Int)) := by omega
      go_wp2
      go_ret
      exact ⟨rfl, hbe⟩
end Go.Proofs.Ytkpcmfgeanlcnaa

/-
  A Reader that is closed, or none.
-/
import Derived.Test.YtkpcmfgeanlcnaaDoorPaA
namespace Go.Proofs.YtkpcmfgeanlcnaaDoor
open Go.RowKit Go.Deep

set_option maxHeartbeats 400000 in
set_option maxRecDepth 100000 in
theorem feed_closed (vr vp : Value) (w : World) (KC : Calls Tryd.prog 50 #[vr] w fun q w' => q = .returned (.bool true) ∧ w' = w) :
    Calls Tryd.prog 28 #[vr, vp] w fun q w' => q = .returned (.tuple #[.int .i64 14, .int .i64 0]) ∧ w' = w := by
  go_enter Tryd.func28, Tryd.ntmps28
  go_wp2_with (first | (go_at_call 50; (with_reducible refine KC.mono ?_); rintro q w1 ⟨rfl, hw1⟩; obtain rfl := hw1.symm))
  go_ret2
  exact ⟨rfl, rfl⟩
set_option maxHeartbeats 400000 in
set_option maxRecDepth 100000 in
theorem finish_closed (vr : Value) (w : World) (KC : ∀ w1, Below w.heap.size w w1 → Calls Tryd.prog 50 #[vr] w1 fun q w' => q = .returned (.bool true) ∧ w' = w1) :
    Calls Tryd.prog 29 #[vr] w fun q w' => q = .returned (.tuple #[zeroShard, .int .i64 14, .int .i64 0]) ∧ Below w.heap.size w w' := by
  have hb0 := (Below.refl w.heap.size w).alloc (Nat.le_refl _) (.cells zero7.toArray 36)
  have hx0 : RowAt (w.alloc (.cells zero7.toArray 36)) w.heap.size zero7 36 := RowAt.made w _ _
  unfold zero7 shardL at hb0 hx0
  go_enter Tryd.func29, Tryd.ntmps29
  go_upto_region 1 with (fail)
  generalize hw0 : w.alloc _ = w0 at hb0 hx0 ⊢
  clear hw0
  have KC0 := KC w0 hb0
  have c0 := hx0.cell (i := 0) rfl
  have c1 := hx0.cell (i := 1) rfl
  have c2 := hx0.cell (i := 2) rfl
  have c3 := hx0.cell (i := 3) rfl
  have c4 := hx0.cell (i := 4) rfl
  have c5 := hx0.cell (i := 5) rfl
  have c6 := hx0.cell (i := 6) rfl
  have f0 := hx0.frozen
  go_wp2_with (first | (go_at_call 50; (with_reducible refine KC0.mono ?_); rintro q w1 ⟨rfl, hw1⟩; obtain rfl := hw1.symm))
  obtain ⟨hF, hG⟩ := set7 (b0 := .int .i64 0) (b1 := .int .i64 0) (b2 := .int .i64 0) (b3 := .int .i64 0) (b4 := .slice none 0 0) (b5 := .slice none 0 0) (b6 := .slice none 0 0) hx0
  have hBB := ((But.of_below hb0 : But w.heap.size (fun _ => False) w w0).step hG (fun k hk e => by omega)).below (fun _ _ => id)
  refine bodyPost_ret (results_cell_2 (p := 2) (u := 3) (t := 4) rfl _ _ w.heap.size 36 _ (0, 0) _ (by rfl) hF Tryd.underlying36 rfl (by kernel_rfl)) rfl ?_
  exact ⟨rfl, hBB⟩
set_option maxHeartbeats 2000000 in
set_option maxRecDepth 100000 in
theorem unmade_any (w : World) : Calls Tryd.prog 13 #[] w fun q w' => q = .returned (.bool true) ∧ Below w.heap.size w w' := by
  have hb0 := (Below.refl w.heap.size w).alloc (Nat.le_refl _) (.cells #[.pointer none, .pointer none] 70)
  have hx0 : RdrAt (w.alloc (.cells #[.pointer none, .pointer none] 70)) w.heap.size none none := RowAt.made w [.pointer none, .pointer none] _
  go_enter Tryd.func13, Tryd.ntmps13
  go_upto_region 3 with (fail)
  generalize hw0 : w.alloc _ = w0 at hb0 hx0 ⊢
  clear hw0
  have hs0 : w.heap.size < w0.heap.size := RowAt.lt hx0
  have K1 := feed_closed (.pointer none) (.slice none 0 0) w0 (closed_nil w0)
  have K2 := finish_closed (.pointer none) w0 (fun w1 _ => closed_nil w1)
  unfold zeroShard shardL at K2
  go_upto_region 5 with (first | (go_at_call 28; (with_reducible refine K1.mono ?_); rintro q w1 ⟨rfl, hw1⟩; obtain rfl := hw1.symm) | (go_at_call 29; (with_reducible refine K2.mono ?_); rintro q w2 ⟨rfl, hb2⟩))
  have hb3 := hb2.alloc hb2.size (.cells #[.int .i64 0, .int .i64 0, .int .i64 0, .int .i64 0, .slice none 0 0, .slice none 0 0, .slice none 0 0] 36)
  generalize hw3 : World.alloc w2 _ = w3 at hb3 ⊢
  clear hw3
  have hx3 : RdrAt w3 w.heap.size none none := RowAt.later hx0 (S := fun _ => False) (.of_below hb3) hs0 id
  have hs3 := hb3.size
  have K3 := feed_closed (.pointer (some ⟨w.heap.size, 0, none⟩)) (.slice none 0 0) w3 (closed_own _ _ _ hx3)
  have K4 := finish_closed (.pointer (some ⟨w.heap.size, 0, none⟩)) w3 (fun w1 h1 => closed_own _ none _ (RowAt.later hx3 (S := fun _ => False) (.of_below h1) (RowAt.lt hx3) id))
  unfold zeroShard shardL at K4
  clear K1 K2
  go_upto_region 7 with (first | (go_at_call 28; (with_reducible refine K3.mono ?_); rintro q w4 ⟨rfl, hw4⟩; obtain rfl := hw4.symm) | (go_at_call 29; (with_reducible refine K4.mono ?_); rintro q w5 ⟨rfl, hb5⟩))
  have hb6 := hb5.alloc hb5.size (.cells #[.int .i64 0, .int .i64 0, .int .i64 0, .int .i64 0, .slice none 0 0, .slice none 0 0, .slice none 0 0] 36)
  generalize hw6 : World.alloc w5 _ = w6 at hb6 ⊢
  clear hw6 K3 K4
  go_wp2_with (first | (go_at_call 20; (with_reducible refine (numL_any _ _).mono ?_); rintro q w' ⟨rfl, hw'⟩; obtain rfl := hw'.symm))
  go_ret
  exact ⟨rfl, (hb0.trans (hb3.mono (by omega))).trans (hb6.mono (by omega))⟩
end Go.Proofs.YtkpcmfgeanlcnaaDoor

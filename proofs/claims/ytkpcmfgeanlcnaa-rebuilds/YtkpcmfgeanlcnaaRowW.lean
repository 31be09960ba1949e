/-
  What the calls that make one row answer: a new row in memory, nothing old turned.
-/
import Derived.Test.YtkpcmfgeanlcnaaRef
import Derived.Deep.OwnRows
namespace Go.Proofs.Ytkpcmfgeanlcnaa
open Go.RowKit Go.Deep

theorem Try.infoB : (Try.prog.info? 5).map (fun i => (i.zero, i.size, i.bytes)) = some (some (.int .u8 0), 1, 1) := by kernel_rfl
theorem Try.infoR : (Try.prog.info? 41).map (fun i => (i.zero, i.size, i.bytes)) = some (some (.slice none 0 0), 1, 24) := by kernel_rfl

/-- One byte of a row: the document's. -/
def rowV (k i j : Nat) : Nat := if i < k then (if j = i then 1 else 0) else inv ((i ^^^ j) % 256)

/-- A row of bytes is new in w', and all else is as it was in w. -/
structure NewRow (w w' : World) (n : Nat) (f : Nat → Nat) : Prop where
  row : w'.rowIs w.heap.size 5 n (fun j => .int .u8 (f j : Nat))
  size : w'.heap.size = w.heap.size + 1
  below : Below w.heap.size w w'

theorem make_bytes (n : Nat) (hn : n ≤ 128) (w : World) : (Instr.makeSlice 41 (.int .i64 (n : Int)) (.int .i64 (n : Int))).run Try.prog w = .ok (.slice (some ⟨w.heap.size, 0, none⟩) n n) (w.alloc (.cells (madeCells #[.int .u8 0] n) 5)) :=
  run_make_row' (P := Try.prog) 41 5 (.int .u8 0) 1 Try.underlying41 Try.infoB rfl .i64 .i64 n (by omega) (by omega) w

theorem newRow_made (w : World) (n : Nat) : NewRow w (w.alloc (.cells (madeCells #[.int .u8 0] n) 5)) n (fun _ => 0) :=
  ⟨World.rowIs_made w (.int .u8 0) n 5, by simp, (Below.refl _ _).alloc (Nat.le_refl _) _⟩
theorem NewRow.set {w w' : World} {n : Nat} {f : Nat → Nat} (h : NewRow w w' n f) (i v : Nat) {g : Nat → Nat} (hg : ∀ j, j < n → g j = if j = i then v else f j) :
    NewRow w (w'.setCell ⟨w.heap.size, i, none⟩ (.int .u8 (v : Int))) n g :=
  ⟨(h.row.set i _).congr (fun j hj => by rw [hg j hj]; split <;> rfl), by simp [h.size], h.below.setCell (Nat.le_refl _) _⟩
theorem NewRow.congr {w w' : World} {n : Nat} {f g : Nat → Nat} (h : NewRow w w' n f) (e : ∀ j, j < n → f j = g j) : NewRow w w' n g :=
  ⟨h.row.congr (fun j hj => by rw [e j hj]), h.size, h.below⟩

theorem make_new (n : Nat) (hn : n ≤ 128) (w : World) : ∃ w1, (Instr.makeSlice 41 (.int .i64 (n : Int)) (.int .i64 (n : Int))).run Try.prog w = .ok (.slice (some ⟨w.heap.size, 0, none⟩) n n) w1 ∧ NewRow w w1 n (fun _ => 0) :=
  ⟨_, make_bytes n hn w, newRow_made w n⟩

set_option maxHeartbeats 400000 in
set_option maxRecDepth 100000 in
theorem unitRow_any (k i : Nat) (hk : k ≤ 128) (hi : i < k) (w : World) :
    Calls Try.prog 43 #[.int .i64 (k : Int), .int .i64 (i : Int)] w fun e w' => e = .returned (.slice (some ⟨w.heap.size, 0, none⟩) k k) ∧ NewRow w w' k (rowV k i) := by
  obtain ⟨w1, hmk, h0⟩ := make_new k hk w
  have hc : w1.cell? ⟨w.heap.size, i, none⟩ = some (.int .u8 0) := h0.row.cell hi
  have hf : w1.frozen? ⟨w.heap.size, i, none⟩ = false := h0.row.frozen i
  have h1 := h0.set i 1 (g := rowV k i) (fun j hj => by unfold rowV; rw [if_pos hi])
  go_enter Try.func43, Try.ntmps43
  go_wp2
  go_ret
  exact ⟨rfl, h1⟩

theorem xor_lt128 {a b : Nat} (ha : a < 128) (hb : b < 128) : a ^^^ b < 128 := Nat.xor_lt_two_pow (n := 7) ha hb
theorem rowV_lt {k i j : Nat} : rowV k i j < 256 := by
  unfold rowV
  split
  · split <;> omega
  · exact inv_lt (Nat.mod_lt _ (by omega))

set_option maxHeartbeats 1000000 in
set_option maxRecDepth 100000 in
theorem row_any (k i : Nat) (hk : k ≤ 128) (hi : i < 128) (w : World) :
    Calls Try.prog 34 #[.int .i64 (k : Int), .int .i64 (i : Int)] w fun e w' => e = .returned (.slice (some ⟨w.heap.size, 0, none⟩) k k) ∧ NewRow w w' k (rowV k i) := by
  by_cases hik : i < k
  · go_enter Try.func34, Try.ntmps34
    go_wp2_with (first | (go_at_call 43; refine (unitRow_any _ _ hk hik _).mono ?_; rintro e w' ⟨rfl, h1⟩))
    go_ret
    exact ⟨rfl, by assumption⟩
  · obtain ⟨w1, hmk, h0⟩ := make_new k hk w
    go_enter Try.func34, Try.ntmps34
    go_wp2
    clear hmk
    go_loopw [6, 17] (fun _ vi wr => ∃ c : Nat, c ≤ k ∧ vi = .int .i64 (c : Int) ∧ NewRow w wr k (fun j => if j < c then rowV k i j else 0)) (fun _ i _ => k - (intOf i).toNat)
    case atStart => exact ⟨0, by omega, rfl, h0.congr (fun j _ => by rw [if_neg (by omega)])⟩
    case round =>
      obtain ⟨c, hc, rfl, hN⟩ := hrel
      clear h0
      by_cases hlt : c < k
      · have hx : bits .xor .i64 (i : Int) (c : Int) = ((i ^^^ c : Nat) : Int) := i64_xor_nat _ _ (by omega) (by omega)
        have hxl := xor_lt128 hi (show c < 128 by omega)
        obtain ⟨x, ex⟩ : ∃ x, i ^^^ c = x := ⟨_, rfl⟩
        rw [ex] at hx hxl
        have hcell : wr.cell? ⟨w.heap.size, c, none⟩ = some (.int .u8 0) := by
          have := hN.row.cell hlt
          rw [if_neg (by omega)] at this
          exact this
        have hfr : wr.frozen? ⟨w.heap.size, c, none⟩ = false := hN.row.frozen c
        have hN2 := hN.set c (inv x) (g := fun j => if j < c + 1 then rowV k i j else 0) (fun j hj => by
          by_cases e : j = c
          · subst e
            rw [if_pos (Nat.lt_succ_self j), if_pos rfl]
            unfold rowV
            rw [if_neg hik, ex, Nat.mod_eq_of_lt (by omega)]
          · rw [if_neg e]
            by_cases hj2 : j < c
            · rw [if_pos hj2, if_pos (by omega)]
            · rw [if_neg hj2, if_neg (by omega)])
        clear ex hN
        go_wp2_with (first | (go_at_call 20; refine (inv_any _ (by omega) _).mono ?_; rintro e w' ⟨rfl, rfl⟩))
        go_roundw
        case rel => exact ⟨c + 1, by omega, by go_num, hN2⟩
        case measure => simp [intOf]; omega
      · have e : c = k := by omega
        subst e
        go_wp2
        go_ret
        exact ⟨rfl, hN.congr (fun j hj => by rw [if_pos hj])⟩

theorem make_lists (n : Nat) (hn : n ≤ 128) (w : World) : (Instr.makeSlice 25 (.int .i64 (n : Int)) (.int .i64 (n : Int))).run Try.prog w = .ok (.slice (some ⟨w.heap.size, 0, none⟩) n n) (w.alloc (.cells (madeCells #[.slice none 0 0] n) 41)) :=
  run_make_row' (P := Try.prog) 25 41 (.slice none 0 0) 24 Try.underlying25 Try.infoR rfl .i64 .i64 n (by omega) (by omega) w

/-- The head of a list of rows of which c are made. -/
def headV (B k c i : Nat) : Value := if i < c then .slice (some ⟨B + 1 + i, 0, none⟩) k k else .slice none 0 0
/-- c of n rows of k bytes are made, one block behind the other. -/
structure NewRows (w w' : World) (n k c : Nat) (f : Nat → Nat → Nat) : Prop where
  head : w'.rowIs w.heap.size 41 n (headV w.heap.size k c)
  rows : ∀ i, i < c → w'.rowIs (w.heap.size + 1 + i) 5 k (fun j => .int .u8 (f i j : Nat))
  size : w'.heap.size = w.heap.size + 1 + c
  below : Below w.heap.size w w'

theorem newRows_start (w : World) (n k : Nat) (f : Nat → Nat → Nat) : NewRows w (w.alloc (.cells (madeCells #[.slice none 0 0] n) 41)) n k 0 f :=
  ⟨(World.rowIs_made w (.slice none 0 0) n 41).congr (fun i _ => by unfold headV; rw [if_neg (by omega)]), fun i h => by omega, by simp, (Below.refl _ _).alloc (Nat.le_refl _) _⟩
theorem makeLists_new (n k : Nat) (hn : n ≤ 128) (f : Nat → Nat → Nat) (w : World) : ∃ w1, (Instr.makeSlice 25 (.int .i64 (n : Int)) (.int .i64 (n : Int))).run Try.prog w = .ok (.slice (some ⟨w.heap.size, 0, none⟩) n n) w1 ∧ NewRows w w1 n k 0 f :=
  ⟨_, make_lists n hn w, newRows_start w n k f⟩
/-- One row more. -/
theorem NewRows.step {w wr w' : World} {n k c : Nat} {f : Nat → Nat → Nat} (h : NewRows w wr n k c f) (hn : NewRow wr w' k (f c)) :
    NewRows w (w'.setCell ⟨w.heap.size, c, none⟩ (.slice (some ⟨wr.heap.size, 0, none⟩) k k)) n k (c + 1) f := by
  have hz := h.size
  have hb : ∀ j, j < wr.heap.size → w'.heap[j]? = wr.heap[j]? := fun j hj => hn.below.block j hj
  refine ⟨?_, ?_, by rw [show (w'.setCell _ _).heap.size = w'.heap.size from by simp]; rw [hn.size, hz]; omega, (h.below.trans (hn.below.mono (by omega))).setCell (Nat.le_refl _) _⟩
  · refine ((h.head.of_block (hb _ (by omega))).set c _).congr (fun j _ => ?_)
    unfold headV
    by_cases e : j = c
    · subst e; rw [if_pos rfl, if_pos (by omega), hz]
    · rw [if_neg e]
      by_cases hj : j < c
      · rw [if_pos hj, if_pos (by omega)]
      · rw [if_neg hj, if_neg (by omega)]
  · intro i hi
    refine World.rowIs.setOther ?_ (by show w.heap.size + 1 + i ≠ w.heap.size; omega) _
    by_cases e : i = c
    · subst e
      have := hn.row
      rw [hz] at this
      exact this
    · exact (h.rows i (by omega)).of_block (hb _ (by omega))

set_option maxHeartbeats 1000000 in
set_option maxRecDepth 100000 in
theorem crows_any (k n : Nat) (hk : k ≤ 128) (hn : n ≤ 128) (w : World) :
    Calls Try.prog 29 #[.int .i64 (k : Int), .int .i64 (n : Int)] w fun e w' => e = .returned (.slice (some ⟨w.heap.size, 0, none⟩) n n) ∧ NewRows w w' n k n (rowV k) := by
  obtain ⟨w1, hmk, h0⟩ := makeLists_new n k hn (rowV k) w
  go_enter Try.func29, Try.ntmps29
  go_wp2
  clear hmk
  go_loopw [6, 11] (fun _ vi wr => ∃ c : Nat, c ≤ n ∧ vi = .int .i64 (c : Int) ∧ NewRows w wr n k c (rowV k)) (fun _ i _ => n - (intOf i).toNat)
  case atStart => exact ⟨0, by omega, rfl, h0⟩
  case round =>
    obtain ⟨c, hc, rfl, hN⟩ := hrel
    clear h0
    by_cases hlt : c < n
    · have hz := hN.size
      have hcell : ∀ w', NewRow wr w' k (rowV k c) → w'.cell? ⟨w.heap.size, c, none⟩ = some (.slice none 0 0) := fun w' h => by
        rw [h.below.cell (p := ⟨w.heap.size, c, none⟩) (by show w.heap.size < wr.heap.size; omega), hN.head.cell hlt]
        unfold headV; rw [if_neg (by omega)]
      have hfr : ∀ w', NewRow wr w' k (rowV k c) → w'.frozen? ⟨w.heap.size, c, none⟩ = false := fun w' h => by
        rw [h.below.frozen (p := ⟨w.heap.size, c, none⟩) (by show w.heap.size < wr.heap.size; omega)]; exact hN.head.frozen c
      have HZ : Hid (wr.heap.size = w.heap.size + 1 + c) := hz
      clear hz
      go_wp2_with (first | (go_at_call 34; refine (row_any _ _ hk (by omega) _).mono ?_; rintro e w' ⟨rfl, h1⟩; have g1 := hcell _ h1; have g2 := hfr _ h1; clear hcell hfr))
      have h1 : NewRow wr w' k (rowV k c) := by assumption
      go_roundw
      case rel => exact ⟨c + 1, by omega, by go_num, hN.step h1⟩
      case measure => simp [intOf]; omega
    · have e : c = n := by omega
      subst e
      go_wp2
      go_ret
      exact ⟨rfl, hN⟩
end Go.Proofs.Ytkpcmfgeanlcnaa

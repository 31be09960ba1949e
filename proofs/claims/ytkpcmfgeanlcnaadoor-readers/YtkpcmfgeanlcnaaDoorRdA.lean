/-
  The document's Parse of no bytes at all.
-/
import Derived.Test.YtkpcmfgeanlcnaaDoorScanR
namespace Go.Proofs.YtkpcmfgeanlcnaaDoor
open Go.RowKit Go.Deep

set_option maxHeartbeats 400000 in
set_option maxRecDepth 100000 in
theorem fixed_nil (sb : Nat) (w : World) (h : ScR w sb (.slice none 0 0) 0 none) :
    Calls Tryd.prog 45 #[.pointer (some ⟨sb, 0, none⟩), .string ⟨#[67, 65, 73, 82, 78, 49]⟩] w fun q w' => q = .returned (.tuple #[]) ∧ ScR w' sb (.slice none 0 0) 0 (some (4, 0)) ∧ But w.heap.size (· = sb) w w' := by
  have c0 := h.scn.c0
  have c1 := h.scn.c1
  have c2 := h.scn.c2
  simp only [eR] at c2
  go_enter Tryd.func45, Tryd.ntmps45
  go_wp2
  go_loopw [4] (fun vi wr => (vi = .int .i64 0 ∧ wr = w) ∨ (vi = .int .i64 1 ∧ ScR wr sb (.slice none 0 0) 0 (some (4, 0)) ∧ But w.heap.size (· = sb) w wr)) (fun i _ => 1 - (intOf i).toNat)
  case atStart => exact .inl ⟨rfl, rfl⟩
  case round =>
    rcases hrel with ⟨rfl, rfl⟩ | ⟨rfl, h1, h2⟩
    · go_wp2_with fail
      go_big_quiet (fail)
      go_wp2_with (first | (go_at_call 73; (with_reducible refine (err_r (sb := sb) (v := .slice none 0 0) (at_ := 0) (r := none) 4 0 4 0 rfl rfl (by decide) (by exact h.heap rfl)).mono ?_); rintro q w1 ⟨rfl, h1, h2⟩))
      go_roundw
      case rel => exact .inr ⟨rfl, h1, ⟨h2.os, h2.tape, h2.output, h2.size, h2.block⟩⟩
      case measure => simp [intOf]
    · have d2 := h1.scn.c2
      simp only [eR] at d2
      go_wp2
      go_end0
      exact ⟨rfl, h1, h2⟩
set_option maxHeartbeats 400000 in
set_option maxRecDepth 100000 in
theorem seal_stop (sb : Nat) (N : Int) (e : Nat) (he : e ≠ 0) (w : World) (h : w.cell? ⟨sb, 2, none⟩ = some (.int .i64 (e : Int))) :
    Calls Tryd.prog 72 #[.pointer (some ⟨sb, 0, none⟩), .int .i64 N] w fun q w' => q = .returned (.tuple #[]) ∧ w' = w := by
  have he' : ((e : Int) == 0) = false := by simp; omega
  clear he
  go_enter Tryd.func72, Tryd.ntmps72
  go_wp2
  exact bodyPost_ret (results_none rfl _ _ _) rfl ⟨rfl, rfl⟩
set_option maxHeartbeats 400000 in
set_option maxRecDepth 100000 in
theorem num_stop (sb : Nat) (A N : Int) (h1 : 1 ≤ N) (h2 : N ≤ 4) (e : Nat) (he : e ≠ 0) (w : World) (h : w.cell? ⟨sb, 2, none⟩ = some (.int .i64 (e : Int))) :
    Calls Tryd.prog 40 #[.pointer (some ⟨sb, 0, none⟩), .int .i64 A, .int .i64 N] w fun q w' => q = .returned (.int .i64 0) ∧ w' = w := by
  have he' : ((e : Int) == 0) = false := by simp; omega
  have hwr : IntKind.i64.wrap (N - 1) = N - 1 := IntWalk.i64_in _ (by omega)
  clear he
  go_enter Tryd.func40, Tryd.ntmps40
  go_wp2
  go_loop [7, 8] (fun v vi => v = .int .i64 0 ∧ vi = .int .i64 (N - 1)) (fun _ _ => 0)
  case atStart => exact ⟨rfl, by simp⟩
  case round =>
    obtain ⟨rfl, rfl⟩ := hrel
    go_wp2
    go_ret
    exact ⟨rfl, rfl⟩

/-- Seven cells are laid anew. -/
theorem set7n {w : World} {b : Nat} {a0 a1 a2 a3 a4 a5 a6 b0 b1 b2 b3 b4 b5 b6 : Value} {ty : TypeId} (h : RowAt w b [a0, a1, a2, a3, a4, a5, a6] ty) :
    RowAt (((((((w.setCell ⟨b, 0, none⟩ b0).setCell ⟨b, 1, none⟩ b1).setCell ⟨b, 2, none⟩ b2).setCell ⟨b, 3, none⟩ b3).setCell ⟨b, 4, none⟩ b4).setCell ⟨b, 5, none⟩ b5).setCell ⟨b, 6, none⟩ b6) b [b0, b1, b2, b3, b4, b5, b6] ty ∧
    But w.heap.size (· = b) w (((((((w.setCell ⟨b, 0, none⟩ b0).setCell ⟨b, 1, none⟩ b1).setCell ⟨b, 2, none⟩ b2).setCell ⟨b, 3, none⟩ b3).setCell ⟨b, 4, none⟩ b4).setCell ⟨b, 5, none⟩ b5).setCell ⟨b, 6, none⟩ b6) :=
  ⟨((((((h.set 0 b0).set 1 b1).set 2 b2).set 3 b3).set 4 b4).set 5 b5).set 6 b6,
   (((((((But.refl w.heap.size (· = b) w).setCell (p := ⟨b, 0, none⟩) (.inr rfl) b0).setCell (p := ⟨b, 1, none⟩) (.inr rfl) b1).setCell (p := ⟨b, 2, none⟩) (.inr rfl) b2).setCell (p := ⟨b, 3, none⟩) (.inr rfl) b3).setCell (p := ⟨b, 4, none⟩) (.inr rfl) b4).setCell (p := ⟨b, 5, none⟩) (.inr rfl) b5).setCell (p := ⟨b, 6, none⟩) (.inr rfl) b6⟩
def zs7 : List Value := [.int .i64 0, .int .i64 0, .int .i64 0, .int .i64 0, .slice none 0 0, .slice none 0 0, .slice none 0 0]
set_option maxHeartbeats 1000000 in
set_option maxRecDepth 100000 in
theorem head_nil (sb : Nat) (w : World) (h : ScR w sb (.slice none 0 0) 0 none) :
    Calls Tryd.prog 39 #[.pointer (some ⟨sb, 0, none⟩)] w fun q w' => q = .returned (.agg (shardL 0 0 0 0 (.slice none 0 0) (.slice none 0 0) (.slice none 0 0)).toArray) ∧ ScR w' sb (.slice none 0 0) 0 (some (4, 0)) ∧ But w.heap.size (· = sb) w w' := by
  have hsb := h.lt
  have hA0 := (But.refl w.heap.size (fun _ => False) w).alloc (Nat.le_refl _) (.cells zs7.toArray 36)
  have hX0 := RowAt.made w zs7 36
  have h0 := h.later hA0 hsb id
  have K1 := fixed_nil sb _ h0
  unfold zs7 at *
  unfold shardL
  go_enter Tryd.func39, Tryd.ntmps39
  go_upto_region 3 with (first | (go_at_call 45; (with_reducible refine K1.mono ?_); rintro q w1 ⟨rfl, h1, hB1⟩; have e1 := h1.scn.c2; simp only [eR] at e1) | (go_at_call 72; (with_reducible refine (seal_stop sb _ 4 (by decide) _ (by exact e1)).mono ?_); rintro q w' ⟨rfl, hw'⟩; obtain rfl := hw'.symm))
  have hX1 := hX0.later hB1 hX0.lt (by show ¬ w.heap.size = sb; omega)
  have hs1 := hB1.size
  have hw1 : w.heap.size < w1.heap.size := hX1.lt
  have hA1 := (But.refl w1.heap.size (fun _ => False) w1).alloc (Nat.le_refl _) (.cells zs7.toArray 36)
  have hY := RowAt.made w1 zs7 36
  have h2 := h1.later hA1 h1.lt id
  have hX2 := hX1.later hA1 hX1.lt id
  have hB2 : But w.heap.size (· = sb) w _ := ((hA0.mono (Nat.le_refl _) (fun _ x => x.elim)).trans (hB1.mono (by simp) (fun _ x => x))).trans (hA1.mono (Nat.le_of_lt hw1) (fun _ x => x.elim))
  unfold zs7 at *
  have e2 := h2.scn.c2
  simp only [eR] at e2
  go_upto_region 12 with (first | (go_at_call 40; (with_reducible refine (num_stop sb _ _ (by omega) (by omega) 4 (by decide) _ (by exact e2)).mono ?_); rintro q w' ⟨rfl, hw'⟩; obtain rfl := hw'.symm))
  have hne : ¬ w1.heap.size = w.heap.size := by omega
  generalize World.alloc w1 _ = w2 at hA1 hY h2 hX2 hB2 e2 ⊢
  generalize w1.heap.size = yb at hY hne ⊢
  have c0 := hY.cell (i := 0) rfl
  have c1 := hY.cell (i := 1) rfl
  have c2 := hY.cell (i := 2) rfl
  have c3 := hY.cell (i := 3) rfl
  have c4 := hY.cell (i := 4) rfl
  have c5 := hY.cell (i := 5) rfl
  have c6 := hY.cell (i := 6) rfl
  have d0 := hX2.cell (i := 0) rfl
  have d1 := hX2.cell (i := 1) rfl
  have d2 := hX2.cell (i := 2) rfl
  have d3 := hX2.cell (i := 3) rfl
  have d4 := hX2.cell (i := 4) rfl
  have d5 := hX2.cell (i := 5) rfl
  have d6 := hX2.cell (i := 6) rfl
  have f0 := hX2.frozen
  clear hA1 hX1 hB1 hA0 hX0 h0 K1 h1 e1 hs1
  go_wp2_with (first | (go_at_call 42; (with_reducible refine (must_stop sb _ _ _ 4 (by decide) _ (by exact e2)).mono ?_); rintro q w' ⟨rfl, hw'⟩; obtain rfl := hw'.symm))
  obtain ⟨hF, hG⟩ := set7n (b0 := .int .i64 0) (b1 := .int .i64 0) (b2 := .int .i64 0) (b3 := .int .i64 0) (b4 := .slice none 0 0) (b5 := .slice none 0 0) (b6 := .slice none 0 0) hX2
  refine bodyPost_ret (results_cell_row rfl _ _ w.heap.size 36 _ (0, 0) _ rfl hF Tryd.underlying36 rfl (by kernel_rfl)) rfl ?_
  refine ⟨rfl, h2.later hG h2.lt (fun e => by have : sb = w.heap.size := e; omega), ?_⟩
  exact hB2.trans ⟨hG.os, hG.tape, hG.output, hG.size, fun k hk _ => hG.block k (by have := hX2.lt; omega) (by show ¬ k = w.heap.size; omega)⟩
set_option maxHeartbeats 1000000 in
set_option maxRecDepth 100000 in
theorem parse_nil (w : World) : Calls Tryd.prog 23 #[.slice none 0 0] w (ParsePost [] w) := by
  have HE : Hid (parseE [] = .error (4, 0)) := by
    show parseE [] = _
    rfl
  obtain ⟨ca, cb, cc, cd, e, he, hhead⟩ : ∃ (ca cb cc cd : Nat) (e : Nat × Nat), e = (4, 0) ∧ ∀ sb w1, ScR w1 sb (.slice none 0 0) 0 none →
      Calls Tryd.prog 39 #[.pointer (some ⟨sb, 0, none⟩)] w1 fun q w' => q = .returned (.agg (shardL ca cb cc cd (.slice none 0 0) (.slice none 0 0) (.slice none 0 0)).toArray) ∧ ScR w' sb (.slice none 0 0) 0 (some e) ∧ But w1.heap.size (· = sb) w1 w' :=
    ⟨0, 0, 0, 0, (4, 0), rfl, fun sb w1 h1 => head_nil sb w1 h1⟩
  rw [← he] at HE
  clear he
  unfold shardL at hhead
  have hA : RowAt ((w.alloc (.cells (shardL 0 0 0 0 (.slice none 0 0) (.slice none 0 0) (.slice none 0 0)).toArray 36)).alloc (.cells (scanL (.slice none 0 0) 0 0 0).toArray 94)) (w.heap.size + 1) (scanL (.slice none 0 0) 0 0 0) 94 := by
    have := RowAt.made (w.alloc (.cells (shardL 0 0 0 0 (.slice none 0 0) (.slice none 0 0) (.slice none 0 0)).toArray 36)) (scanL (.slice none 0 0) 0 0 0) 94
    simpa using this
  have hbe : But w.heap.size (fun _ => False) w ((w.alloc (.cells (shardL 0 0 0 0 (.slice none 0 0) (.slice none 0 0) (.slice none 0 0)).toArray 36)).alloc (.cells (scanL (.slice none 0 0) 0 0 0).toArray 94)) := ((But.refl _ _ _).alloc (Nat.le_refl _) _).alloc (by simp) _
  have hR : RowAt ((w.alloc (.cells (shardL 0 0 0 0 (.slice none 0 0) (.slice none 0 0) (.slice none 0 0)).toArray 36)).alloc (.cells (scanL (.slice none 0 0) 0 0 0).toArray 94)) w.heap.size (shardL 0 0 0 0 (.slice none 0 0) (.slice none 0 0) (.slice none 0 0)) 36 :=
    (RowAt.made w _ _).later (S := fun _ => False) (But.alloc (But.refl _ _ _) (Nat.le_refl _) _) (by simp) id
  have hsz : ((w.alloc (.cells (shardL 0 0 0 0 (.slice none 0 0) (.slice none 0 0) (.slice none 0 0)).toArray 36)).alloc (.cells (scanL (.slice none 0 0) 0 0 0).toArray 94)).heap.size = w.heap.size + 2 := by simp
  have hS1 : ScR _ (w.heap.size + 1) (.slice none 0 0) 0 none := ⟨hA, errs_none⟩
  unfold shardL scanL at hS1 hR hbe hsz
  go_enter Tryd.func23, Tryd.ntmps23
  go_upto_region 2 with fail
  generalize (w.alloc (Obj.cells (List.toArray [Value.int .i64 ((0 : Nat) : Int), Value.int .i64 ((0 : Nat) : Int), Value.int .i64 ((0 : Nat) : Int), Value.int .i64 ((0 : Nat) : Int), Value.slice none 0 0, Value.slice none 0 0, Value.slice none 0 0]) 36)).alloc (Obj.cells (List.toArray [Value.slice none 0 0, Value.int .i64 ((0 : Nat) : Int), Value.int .i64 ((0 : Nat) : Int), Value.int .i64 ((0 : Nat) : Int)]) 94) = w1 at hS1 hR hbe hsz ⊢
  go_upto_region 14 with (first | (go_at_call 39; refine (hhead (w.heap.size + 1) w1 hS1).mono ?_; rintro q w2 ⟨rfl, hS2, hB2⟩; obtain ⟨k2, k3, kE⟩ := head_cells hS2))
  have hR2 := hR.later hB2 (by omega) (by omega)
  have hbx : ∀ o, But w2.heap.size (fun _ => False) w2 (w2.alloc o) := fun o => But.alloc (But.refl _ _ _) (Nat.le_refl _) o
  have hsz2 := hB2.size
  have e2 := k2 (.cells (List.toArray [Value.int .i64 (ca : Int), Value.int .i64 (cb : Int), Value.int .i64 (cc : Int), Value.int .i64 (cd : Int), Value.slice none 0 0, Value.slice none 0 0, Value.slice none 0 0]) 36)
  have e3 := k3 (.cells (List.toArray [Value.int .i64 (ca : Int), Value.int .i64 (cb : Int), Value.int .i64 (cc : Int), Value.int .i64 (cd : Int), Value.slice none 0 0, Value.slice none 0 0, Value.slice none 0 0]) 36)
  have hR3 := hR2.later (hbx (.cells (List.toArray [Value.int .i64 (ca : Int), Value.int .i64 (cb : Int), Value.int .i64 (cc : Int), Value.int .i64 (cd : Int), Value.slice none 0 0, Value.slice none 0 0, Value.slice none 0 0]) 36)) (by omega) id
  have hb3 := hbx (.cells (List.toArray [Value.int .i64 (ca : Int), Value.int .i64 (cb : Int), Value.int .i64 (cc : Int), Value.int .i64 (cd : Int), Value.slice none 0 0, Value.slice none 0 0, Value.slice none 0 0]) 36)
  generalize w2.alloc (Obj.cells (List.toArray [Value.int .i64 (ca : Int), Value.int .i64 (cb : Int), Value.int .i64 (cc : Int), Value.int .i64 (cd : Int), Value.slice none 0 0, Value.slice none 0 0, Value.slice none 0 0]) 36) = w3 at e2 e3 hR3 hb3 ⊢
  have hBB : Below w.heap.size w w3 := ((hbe.trans ((hB2.mono (by omega) (fun _ x => x)).below (fun k hk hs => by omega) |> But.of_below)).trans (hb3.mono (by omega) (fun _ x => x))).below (fun _ _ x => x)
  clear k2 k3 hbx hR2 hR hbe hb3 hB2 hS2 hS1 hhead hsz hsz2
  have d0 := hR3.cell (i := 0) rfl
  have f0 := hR3.frozen 0
  have d1 := hR3.cell (i := 1) rfl
  have f1 := hR3.frozen 1
  have d2 := hR3.cell (i := 2) rfl
  have f2 := hR3.frozen 2
  have d3 := hR3.cell (i := 3) rfl
  have f3 := hR3.frozen 3
  have d4 := hR3.cell (i := 4) rfl
  have f4 := hR3.frozen 4
  have d5 := hR3.cell (i := 5) rfl
  have f5 := hR3.frozen 5
  have d6 := hR3.cell (i := 6) rfl
  have f6 := hR3.frozen 6
  go_region
  go_wp2
  have hF := RowAt.drew (((((((hR3.set 0 (.int .i64 0)).set 1 (.int .i64 0)).set 2 (.int .i64 0)).set 3 (.int .i64 0)).set 4 (.slice none 0 0)).set 5 (.slice none 0 0)).set 6 (.slice none 0 0))
  have hG := (((((((hBB.setCell (p := ⟨w.heap.size, 0, none⟩) (Nat.le_refl _) (.int .i64 0)).setCell (p := ⟨w.heap.size, 1, none⟩) (Nat.le_refl _) (.int .i64 0)).setCell (p := ⟨w.heap.size, 2, none⟩) (Nat.le_refl _) (.int .i64 0)).setCell (p := ⟨w.heap.size, 3, none⟩) (Nat.le_refl _) (.int .i64 0)).setCell (p := ⟨w.heap.size, 4, none⟩) (Nat.le_refl _) (.slice none 0 0)).setCell (p := ⟨w.heap.size, 5, none⟩) (Nat.le_refl _) (.slice none 0 0)).setCell (p := ⟨w.heap.size, 6, none⟩) (Nat.le_refl _) (.slice none 0 0)).drew
  have hF2 : _ = some (Obj.cells _ 36 (0, 0)) := hF
  refine bodyPost_ret (results_cell_2 (p := 2) (u := 3) (t := 4) rfl _ _ w.heap.size 36 _ (0, 0) _ (by rfl) hF2 Tryd.underlying36 rfl (by kernel_rfl)) rfl ?_
  refine ⟨hG, ?_⟩
  rw [HE.out]
  rfl
end Go.Proofs.YtkpcmfgeanlcnaaDoor

/-
  The data cut in pieces of one length, filled up with noughts: run alone.
-/
import Derived.Test.YtkpcmfgeanlcnabDoorWrC
import Derived.Test.YtkpcmfgeanlcnabDoorRowW
import Derived.Laws.CopyRow
import Derived.Test.YtkpcmfgeanlcnabDoorLfK
import Derived.Handed
import Derived.Leaving
import Derived.Test.YtkpcmfgeanlcnabDoorProg
import Derived.KernelRfl
namespace Go.Proofs.YtkpcmfgeanlcnabDoor
open Go.RowKit Go.Deep

theorem row_set_heap {w : World} {N : Nat} {c : Array Value} {t : TypeId} (c' : Array Value) (h : w.heap[N]? = some (.cells c t)) : (w.setRow N c').heap[N]? = some (.cells c' t) := by
  simp [World.setRow, Array.getElem?_modify, h]
theorem row_set_other (w : World) {N b : Nat} (c' : Array Value) (h : b ≠ N) : (w.setRow N c').heap[b]? = w.heap[b]? := by
  simp [World.setRow, Array.getElem?_modify, Ne.symm h]
theorem row_set_size (w : World) (N : Nat) (c' : Array Value) : (w.setRow N c').heap.size = w.heap.size := by simp [World.setRow]

/-- The pieces, as they lie. -/
structure Pieces (w : World) (k L P F : Nat) (l : List UInt8) (w' : World) : Prop where
  list : w'.rowIs P 29 k (fun j => .slice (some ⟨F, j * L, none⟩) L (k * L - j * L))
  row : w'.rowIs F 5 (k * L) (fun j => .int .u8 ((bAt l j : Nat) : Int))
  lo : w.heap.size ≤ P ∧ w.heap.size ≤ F
  bel : Below w.heap.size w w'

theorem copy_run (w : World) (F n : Nat) (vd : Value) (l : List UInt8) (hv : Lies w vd (u8V l)) (hn : l.length ≤ n) (hF : w.rowIs F 5 n (fun _ => .int .u8 0)) :
    ∃ w', (Builtin.copy_ #[29, 29] 3 #[.slice (some ⟨F, 0, none⟩) n n, vd]).run Tryd.prog w = .ok (goInt l.length) w' ∧ w'.rowIs F 5 n (fun j => .int .u8 ((bAt l j : Nat) : Int)) ∧ (∀ b, b ≠ F → w'.heap[b]? = w.heap[b]?) ∧ w'.heap.size = w.heap.size ∧ w'.os = w.os ∧ w'.tape = w.tape ∧ w'.output = w.output := by
  obtain ⟨cur, hc1, hc2, hc3⟩ := hF
  obtain ⟨i0, hi, _, hz1, _⟩ := info_parts Tryd.infoB
  have hsz : (Tryd.prog.info? 5).map (·.size) = some 1 := by rw [hi]; simp [hz1]
  obtain ⟨ba, cap, rfl, hle, hcell⟩ := hv
  rcases Nat.eq_zero_or_pos l.length with h0 | h0
  · obtain rfl : l = [] := List.eq_nil_of_length_eq_zero h0
    refine ⟨w, ?_, ⟨cur, hc1, hc2, fun i hi => by rw [hc3 i hi]; rfl⟩, fun _ _ => rfl, rfl, rfl, rfl, rfl⟩
    cases ba <;> simp [u8V, Builtin.copy_, run_underlying Tryd.underlying29, Builtin.lenOf, Builtin.firstCells, sizeOf, typeInfo, hi, loadCells, loadCellsFrom, storeCells]
  · obtain ⟨b, off, rfl, _⟩ := hcell 0 ((u8V l)[0]'(by simpa [u8V] using h0)) (by simp)
    have hsrc : ∀ j v, (u8V l)[j]? = some v → w.cell? ((⟨b, off, none⟩ : Addr).add j) = some v := fun j v hj => by
      obtain ⟨b', off', e, h⟩ := hcell j v hj
      cases e
      rw [show (⟨b, off, none⟩ : Addr).add j = ⟨b, off + j, none⟩ from by unfold Addr.add; by_cases h : j = 0 <;> simp [h]]
      exact h
    have hl : (u8V l).length = l.length := by simp [u8V]
    have hrun := run_copy_row Tryd.prog w 29 29 3 5 F 0 n n ⟨b, off, none⟩ (u8V l).length cap cur 5 (u8V l) Tryd.underlying29 hsz hc1 (by rw [hl]; exact (Nat.min_eq_left hn).symm) hsrc (by rw [hl, hc2]; omega) (u8V_one l)
    rw [hl] at hrun
    refine ⟨_, by rw [hl]; exact hrun, ⟨_, row_set_heap _ hc1, ?_, fun i hi => ?_⟩, fun b hb => row_set_other w _ hb, row_set_size _ _ _, rfl, rfl, rfl⟩
    · simp [hc2, hl]
      omega
    · simp only [List.take_zero, List.nil_append, Nat.zero_add]
      rw [List.getElem?_toArray]
      by_cases h : i < l.length
      · rw [List.getElem?_append_left (by rw [hl]; exact h), u8V_get h]
      · rw [List.getElem?_append_right (by rw [hl]; omega), List.getElem?_drop, hl, show l.length + (i - l.length) = i by omega, Array.getElem?_toList, hc3 i hi]
        simp [bAt, List.getD_eq_getElem?_getD, List.getElem?_eq_none (show l.length ≤ i by omega)]

set_option maxHeartbeats 2000000 in
set_option maxRecDepth 100000 in
theorem cut_any (k : Nat) (hk0 : 1 ≤ k) (hk : k ≤ 128) (vd : Value) (l : List UInt8) (hl : l.length ≤ 65536) (w : World) (hv : Lies w vd (u8V l)) :
    Calls Tryd.prog 30 #[.int .i64 ((k : Nat) : Int), vd] w fun e w' => ∃ P F, e = .returned (.slice (some ⟨P, 0, none⟩) k k) ∧ Pieces w k (lenC k l.length) P F l w' := by
  have c1 := clength_any (k : Int) (l.length : Int) k l.length rfl rfl hk0 (by omega) hl
  have hL1 : lenC k l.length * k < l.length + k := by unfold lenC; have := Nat.div_mul_le_self (l.length + k - 1) k; omega
  have hL2 : l.length ≤ k * lenC k l.length := by
    unfold lenC
    have := Nat.lt_div_mul_add (a := l.length + k - 1) (b := k) (by omega)
    rw [Nat.mul_comm]
    omega
  have hLb : lenC k l.length ≤ 65536 := by
    unfold lenC
    exact Nat.div_le_of_le_mul (by have := Nat.mul_le_mul hk0 (Nat.le_refl 65536); omega)
  generalize hL : lenC k l.length = L at *
  have hkL : k * L ≤ 65536 + 128 := by rw [Nat.mul_comm]; omega
  have hlv : ∃ ba cap, vd = .slice ba l.length cap := by obtain ⟨ba, cap, rfl, _⟩ := hv; exact ⟨ba, cap, by simp [u8V]⟩
  have hm1 : ∀ w : World, (Instr.makeSlice 29 (.int .i64 ((k * L : Nat) : Int)) (.int .i64 ((k * L : Nat) : Int))).run Tryd.prog w = .ok (.slice (some ⟨w.heap.size, 0, none⟩) (k * L) (k * L)) (w.alloc (.cells (madeCells #[.int .u8 0] (k * L)) 5)) :=
    fun w => run_make_row' (P := Tryd.prog) 29 5 (.int .u8 0) 1 Tryd.underlying29 Tryd.infoB rfl .i64 .i64 (k * L) (by omega) (by omega) w
  have hmul : ((k : Nat) : Int) * ((L : Nat) : Int) = ((k * L : Nat) : Int) := by simp
  have z1 := World.rowIs_made w (.int .u8 0) (k * L) 5
  have b1 : Below w.heap.size w (w.alloc (.cells (madeCells #[.int .u8 0] (k * L)) 5)) := (Below.refl _ _).alloc (Nat.le_refl _) _
  have s1 : (w.alloc (.cells (madeCells #[.int .u8 0] (k * L)) 5)).heap.size = w.heap.size + 1 := by simp
  obtain ⟨w2, hcp, r2, o2, s2, h2a, h2b, h2c⟩ := copy_run _ w.heap.size (k * L) vd l (hv.below b1) hL2 z1
  have b2 : Below w.heap.size w w2 := ⟨h2a, h2b, h2c, by omega, fun b hb => by rw [o2 b (by omega)]; exact b1.block b hb⟩
  have hm1w := hm1 w
  have m2 := make_lists k hk w2
  have z2 := World.rowIs_made w2 (.slice none 0 0) k 29
  have b3 : Below w.heap.size w (w2.alloc (.cells (madeCells #[.slice none 0 0] k) 29)) := b2.alloc (by omega) _
  have r3 := r2.alloc (.cells (madeCells #[.slice none 0 0] k) 29)
  have hs2 : w2.heap.size = w.heap.size + 1 := by omega
  rw [hs2] at m2 z2
  generalize madeCells #[.int .u8 0] (k * L) = Z1 at *
  generalize madeCells #[.slice none 0 0] k = Z2 at *
  obtain ⟨ba, cap, rfl⟩ := hlv
  generalize hl' : l.length = n at *
  have hLk : L * k = k * L := Nat.mul_comm _ _
  clear hm1 s1 o2 s2 h2a h2b h2c z1 b1 hv hmul
  have hmul : ((k : Nat) : Int) * ((L : Nat) : Int) = ((k * L : Nat) : Int) := by simp
  generalize hKL : k * L = kL at *
  go_enter Tryd.func30, Tryd.ntmps30
  go_wp2_with (first | (go_at_call 42; (with_reducible refine (c1 _).mono ?_); rintro e w' ⟨rfl, hw'⟩; obtain rfl := hw'.symm))
  clear hcp hm1w m2 c1
  have hne : w.heap.size + 1 ≠ w.heap.size := by omega
  generalize w2.alloc (Obj.cells Z2 29) = w3 at *
  clear r2 b2
  go_loopw [8, 24] (fun _ vi wr => ∃ j : Nat, j ≤ k ∧ vi = .int .i64 ((j : Nat) : Int) ∧ wr.rowIs (w.heap.size + 1) 29 k (fun i => if i < j then .slice (some ⟨w.heap.size, i * L, none⟩) L (kL - i * L) else .slice none 0 0) ∧ wr.rowIs w.heap.size 5 kL (fun j => .int .u8 ((bAt l j : Nat) : Int)) ∧ Below w.heap.size w wr) (fun _ i _ => k - (intOf i).toNat)
  case atStart => exact ⟨0, by omega, rfl, z2.congr fun i _ => by rw [if_neg (by omega)], r3, b3⟩
  case round =>
    obtain ⟨j, hj, rfl, hR, hr, hb⟩ := hrel
    by_cases hlt : j < k
    · have hlt' : (j : Int) < (k : Int) := by omega
      have hjL : j * L + L ≤ kL := by rw [← hKL, ← Nat.succ_mul]; exact Nat.mul_le_mul_right L hlt
      have hm1 : ((j : Nat) : Int) * ((L : Nat) : Int) = ((j * L : Nat) : Int) := by simp
      have hm2 : (((j : Nat) : Int) + 1) * ((L : Nat) : Int) = ((j * L + L : Nat) : Int) := by rw [Int.add_mul]; simp
      have g0 := hR.cell hlt
      rw [if_neg (by omega)] at g0
      have g1 := hR.frozen j
      have hR2 := (hR.set j (.slice (some ⟨w.heap.size, j * L, none⟩) L (kL - j * L))).congr (g := fun i => if i < j + 1 then .slice (some ⟨w.heap.size, i * L, none⟩) L (kL - i * L) else .slice none 0 0) (fun i _ => by
        by_cases e : i = j
        · subst e; rw [if_pos rfl, if_pos (by omega)]
        · rw [if_neg e]
          by_cases e2 : i < j
          · rw [if_pos e2, if_pos (by omega)]
          · rw [if_neg e2, if_neg (by omega)])
      have hr2 := hr.setOther (a := ⟨w.heap.size + 1, j, none⟩) (by show w.heap.size ≠ w.heap.size + 1; omega) (.slice (some ⟨w.heap.size, j * L, none⟩) L (kL - j * L))
      have hb2 := hb.setCell (p := ⟨w.heap.size + 1, j, none⟩) (by show w.heap.size ≤ w.heap.size + 1; omega) (.slice (some ⟨w.heap.size, j * L, none⟩) L (kL - j * L))
      clear hR hr hb z2 r3 b3
      have hif : kL = j * L → j * L = 0 := fun e => by
        have : L = 0 := by omega
        rw [this, Nat.mul_zero]
      generalize hjl : j * L = jL at *
      have hif2 : (if kL = jL then some (⟨w.heap.size, 0, none⟩ : Addr) else some ⟨w.heap.size, jL, none⟩) = some ⟨w.heap.size, jL, none⟩ := by
        by_cases e : kL = jL
        · rw [if_pos e, hif e]
        · rw [if_neg e]
      clear hif
      have d1 : (jL : Int) ≤ ((jL + L : Nat) : Int) := by omega
      have d2 : ((jL + L : Nat) : Int) ≤ (kL : Int) := by omega
      have d3 : jL + L - jL = L := by omega
      go_wp2
      go_roundw
      case rel => exact ⟨j + 1, by omega, by go_num, hR2, hr2, hb2⟩
      case measure => simp [intOf]; omega
    · obtain rfl : j = k := by omega
      have hnl : ¬ ((j : Int) < (j : Int)) := by omega
      go_wp2
      go_ret
      rw [← hKL] at hr
      exact ⟨w.heap.size + 1, rfl, w.heap.size, hR.congr fun i hi => by rw [if_pos hi, hKL], hr, ⟨by omega, Nat.le_refl _⟩, hb⟩
end Go.Proofs.YtkpcmfgeanlcnabDoor

/-
  A run that starts no goroutine.
-/
namespace Go.Lf
open Go.Conc

theorem ok_of_calls {P : Program} {f : FuncId} {args : Array Value} {w : World} {Post : Value → World → Prop} (noInit : P.inits.idxOf? f = none) (h : Calls P f args w fun e w' => ∃ v, e = .returned v ∧ Post v w') : Ok P Post (solo (G (Frame.enter P f args .normal) []) w) #[] := by
  obtain ⟨n, v, w', fr, hn, hend, hp⟩ := (h.mono (R' := fun | .returned v, w' => Post v w' | _, _ => False) (by
    rintro e w' ⟨v, rfl, hp⟩
    exact hp)).done_lone noInit
  have h2 : runN P n (solo (G (Frame.enter P f args .normal) []) w) = .next (lone fr [] w') := hn
  have h3 : runN P (n + 1) (solo (G (Frame.enter P f args .normal) []) w) = .ended (.done v) w' := hend
  refine ⟨n, lone fr [] w', .done v, w', (runNT P (n + 1) (solo (G (Frame.enter P f args .normal) []) w) #[]).2, ?_, h2, step_of_runs h2 h3, v, rfl, hp, fun said => (no_race_of_lone P n _ _ h2 (by simp [lone]) rfl).2, handedOver_of_lone h2, onlyLeaving_of_quiet (quiet_lone _ _ _), (alone_of_lone (w' := w') h2).2.2⟩
  exact Prod.ext (by rw [runNT_fst, h3]) rfl
end Go.Lf

/-
  The functions that are run alone ahead of the fork of Columns and behind its join: their code is tame.
-/
namespace Go.Proofs.YtkpcmfgeanlcnabDoor
open Go.Lf

def tameL : List FuncId := [30, 42, 13, 10, 14, 15, 16, 17, 24, 25, 39, 40, 11, 18, 19, 26, 27, 20, 28, 29, 37, 41, 22, 8, 4, 9, 5, 6]
def tame (f : FuncId) : Bool := tameL.contains f

noncomputable def goodOne (f : FuncId) : Bool := match Tryd.prog.funcs[f]? with
  | none => false
  | some fn => !(fn.name == "runtime.NumGoroutine") && match fn.body with
    | none => false
    | some c => okCode Tryd.prog tame c
theorem goodL : tameL.all goodOne = true := by kernel_rfl
theorem goodF : GoodF Tryd.prog tame := by
  intro f hf
  have h := List.all_eq_true.1 goodL f (by simpa [tame] using hf)
  unfold goodOne at h
  split at h
  · cases h
  · rename_i fn hfn
    rw [Bool.and_eq_true] at h
    obtain ⟨h1, h2⟩ := h
    split at h2
    · cases h2
    · rename_i c hc
      exact .inl ⟨fn, c, [], hfn, by simpa using h1, hc, h2, fun x hx => by simp at hx⟩
end Go.Proofs.YtkpcmfgeanlcnabDoor

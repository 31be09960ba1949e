/-
  The data cut in pieces of one length, filled up with noughts: run alone.
-/
import Derived.Test.YtlghjjennhpjeaaGreatDoorEnC
import Derived.Test.YtlghjjennhpjeaaGreatDoorRowW
import Derived.Laws.CopyRow
import Derived.Test.YtlghjjennhpjeaaGreatDoorLfM
import Derived.Test.YtlghjjennhpjeaaGreatDoorCoV
namespace Go.Proofs.YtlghjjennhpjeaaGreatDoor
open Go.RowKit Go.Deep

theorem row_set_heap {w : World} {N : Nat} {c : Array Value} {t : TypeId} (c' : Array Value) (h : w.heap[N]? = some (.cells c t)) : (w.setRow N c').heap[N]? = some (.cells c' t) := by
  simp [World.setRow, Array.getElem?_modify, h]
theorem row_set_other (w : World) {N b : Nat} (c' : Array Value) (h : b ≠ N) : (w.setRow N c').heap[b]? = w.heap[b]? := by
  simp [World.setRow, Array.getElem?_modify, Ne.symm h]
theorem row_set_size (w : World) (N : Nat) (c' : Array Value) : (w.setRow N c').heap.size = w.heap.size := by simp [World.setRow]

/-- The pieces, as they lie. -/
structure Pieces (w : World) (k L P F : Nat) (l : List UInt8) (w' : World) : Prop where
  list : w'.rowIs P 24 k (fun j => .slice (some ⟨F, j * L, none⟩) L (k * L - j * L))
  row : w'.rowIs F 5 (k * L) (fun j => .int .u8 ((bAt l j : Nat) : Int))
  lo : w.heap.size ≤ P ∧ w.heap.size ≤ F
  bel : Below w.heap.size w w'

theorem copy_run (w : World) (F n : Nat) (vd : Value) (l : List UInt8) (hv : Lies w vd (u8V l)) (hn : l.length ≤ n) (hF : w.rowIs F 5 n (fun _ => .int .u8 0)) :
    ∃ w', (Builtin.copy_ #[24, 24] 3 #[.slice (some ⟨F, 0, none⟩) n n, vd]).run Tryz.prog w = .ok (goInt l.length) w' ∧ w'.rowIs F 5 n (fun j => .int .u8 ((bAt l j : Nat) : Int)) ∧ (∀ b, b ≠ F → w'.heap[b]? = w.heap[b]?) ∧ w'.heap.size = w.heap.size ∧ w'.os = w.os ∧ w'.tape = w.tape ∧ w'.output = w.output := by
  obtain ⟨cur, hc1, hc2, hc3⟩ := hF
  obtain ⟨i0, hi, _, hz1, _⟩ := info_parts Tryz.infoB
  have hsz : (Tryz.prog.info? 5).map (·.size) = some 1 := by rw [hi]; simp [hz1]
  obtain ⟨ba, cap, rfl, hle, hcell⟩ := hv
  rcases Nat.eq_zero_or_pos l.length with h0 | h0
  · obtain rfl : l = [] := List.eq_nil_of_length_eq_zero h0
    refine ⟨w, ?_, ⟨cur, hc1, hc2, fun i hi => by rw [hc3 i hi]; rfl⟩, fun _ _ => rfl, rfl, rfl, rfl, rfl⟩
    cases ba <;> simp [u8V, Builtin.copy_, run_underlying Tryz.underlying24, Builtin.lenOf, Builtin.firstCells, sizeOf, typeInfo, hi, loadCells, loadCellsFrom, storeCells]
  · obtain ⟨b, off, rfl, _⟩ := hcell 0 ((u8V l)[0]'(by simpa [u8V] using h0)) (by simp)
    have hsrc : ∀ j v, (u8V l)[j]? = some v → w.cell? ((⟨b, off, none⟩ : Addr).add j) = some v := fun j v hj => by
      obtain ⟨b', off', e, h⟩ := hcell j v hj
      cases e
      rw [show (⟨b, off, none⟩ : Addr).add j = ⟨b, off + j, none⟩ from by unfold Addr.add; by_cases h : j = 0 <;> simp [h]]
      exact h
    have hl : (u8V l).length = l.length := by simp [u8V]
    have hrun := run_copy_row Tryz.prog w 24 24 3 5 F 0 n n ⟨b, off, none⟩ (u8V l).length cap cur 5 (u8V l) Tryz.underlying24 hsz hc1 (by rw [hl]; exact (Nat.min_eq_left hn).symm) hsrc (by rw [hl, hc2]; omega) (u8V_one l)
    rw [hl] at hrun
    refine ⟨_, by rw [hl]; exact hrun, ⟨_, row_set_heap _ hc1, ?_, fun i hi => ?_⟩, fun b hb => row_set_other w _ hb, row_set_size _ _ _, rfl, rfl, rfl⟩
    · simp [hc2, hl]
      omega
    · simp only [List.take_zero, List.nil_append, Nat.zero_add]
      rw [List.getElem?_toArray]
      by_cases h : i < l.length
      · rw [List.getElem?_append_left (by rw [hl]; exact h), u8V_get h]
      · rw [List.getElem?_append_right (by rw [hl]; omega), List.getElem?_drop, hl, show l.length + (i - l.length) = i by omega, Array.getElem?_toList, hc3 i hi]
        simp [bAt, List.getD_eq_getElem?_getD, List.getElem?_eq_none (show l.length ≤ i by omega)]

set_option maxHeartbeats 2000000 in
set_option maxRecDepth 100000 in
theorem cut_any (k : Nat) (hk0 : 1 ≤ k) (hk : k ≤ 128) (vd : Value) (l : List UInt8) (hl : l.length ≤ 65536) (w : World) (hv : Lies w vd (u8V l)) :
    Calls Tryz.prog 83 #[.int .i64 ((k : Nat) : Int), vd] w fun e w' => ∃ P F, e = .returned (.slice (some ⟨P, 0, none⟩) k k) ∧ Pieces w k (lenC k l.length) P F l w' := by
  have c1 := clength_any (k : Int) (l.length : Int) k l.length rfl rfl hk0 (by omega) hl
  have hL1 : lenC k l.length * k < l.length + k := by unfold lenC; have := Nat.div_mul_le_self (l.length + k - 1) k; omega
  have hL2 : l.length ≤ k * lenC k l.length := by
    unfold lenC
    have := Nat.lt_div_mul_add (a := l.length + k - 1) (b := k) (by omega)
    rw [Nat.mul_comm]
    omega
  have hLb : lenC k l.length ≤ 65536 := by
    unfold lenC
    exact Nat.div_le_of_le_mul (by have := Nat.mul_le_mul hk0 (Nat.le_refl 65536); omega)
  generalize hL : lenC k l.length = L at *
  have hkL : k * L ≤ 65536 + 128 := by rw [Nat.mul_comm]; omega
  have hlv : ∃ ba cap, vd = .slice ba l.length cap := by obtain ⟨ba, cap, rfl, _⟩ := hv; exact ⟨ba, cap, by simp [u8V]⟩
  have hm1 : ∀ w : World, (Instr.makeSlice 24 (.int .i64 ((k * L : Nat) : Int)) (.int .i64 ((k * L : Nat) : Int))).run Tryz.prog w = .ok (.slice (some ⟨w.heap.size, 0, none⟩) (k * L) (k * L)) (w.alloc (.cells (madeCells #[.int .u8 0] (k * L)) 5)) :=
    fun w => run_make_row' (P := Tryz.prog) 24 5 (.int .u8 0) 1 Tryz.underlying24 Tryz.infoB rfl .i64 .i64 (k * L) (by omega) (by omega) w
  have hmul : ((k : Nat) : Int) * ((L : Nat) : Int) = ((k * L : Nat) : Int) := by simp
  have z1 := World.rowIs_made w (.int .u8 0) (k * L) 5
  have b1 : Below w.heap.size w (w.alloc (.cells (madeCells #[.int .u8 0] (k * L)) 5)) := (Below.refl _ _).alloc (Nat.le_refl _) _
  have s1 : (w.alloc (.cells (madeCells #[.int .u8 0] (k * L)) 5)).heap.size = w.heap.size + 1 := by simp
  obtain ⟨w2, hcp, r2, o2, s2, h2a, h2b, h2c⟩ := copy_run _ w.heap.size (k * L) vd l (hv.below b1) hL2 z1
  have b2 : Below w.heap.size w w2 := ⟨h2a, h2b, h2c, by omega, fun b hb => by rw [o2 b (by omega)]; exact b1.block b hb⟩
  have hm1w := hm1 w
  have m2 := make_lists k hk w2
  have z2 := World.rowIs_made w2 (.slice none 0 0) k 24
  have b3 : Below w.heap.size w (w2.alloc (.cells (madeCells #[.slice none 0 0] k) 24)) := b2.alloc (by omega) _
  have r3 := r2.alloc (.cells (madeCells #[.slice none 0 0] k) 24)
  have hs2 : w2.heap.size = w.heap.size + 1 := by omega
  rw [hs2] at m2 z2
  generalize madeCells #[.int .u8 0] (k * L) = Z1 at *
  generalize madeCells #[.slice none 0 0] k = Z2 at *
  obtain ⟨ba, cap, rfl⟩ := hlv
  generalize hl' : l.length = n at *
  have hLk : L * k = k * L := Nat.mul_comm _ _
  clear hm1 s1 o2 s2 h2a h2b h2c z1 b1 hv hmul
  have hmul : ((k : Nat) : Int) * ((L : Nat) : Int) = ((k * L : Nat) : Int) := by simp
  generalize hKL : k * L = kL at *
  go_enter Tryz.func83, Tryz.ntmps83
  go_wp2_with (first | (go_at_call 116; (with_reducible refine (c1 _).mono ?_); rintro e w' ⟨rfl, hw'⟩; obtain rfl := hw'.symm))
  clear hcp hm1w m2 c1
  have hne : w.heap.size + 1 ≠ w.heap.size := by omega
  generalize w2.alloc (Obj.cells Z2 24) = w3 at *
  clear r2 b2
  go_loopw [8, 24] (fun _ vi wr => ∃ j : Nat, j ≤ k ∧ vi = .int .i64 ((j : Nat) : Int) ∧ wr.rowIs (w.heap.size + 1) 24 k (fun i => if i < j then .slice (some ⟨w.heap.size, i * L, none⟩) L (kL - i * L) else .slice none 0 0) ∧ wr.rowIs w.heap.size 5 kL (fun j => .int .u8 ((bAt l j : Nat) : Int)) ∧ Below w.heap.size w wr) (fun _ i _ => k - (intOf i).toNat)
  case atStart => exact ⟨0, by omega, rfl, z2.congr fun i _ => by rw [if_neg (by omega)], r3, b3⟩
  case round =>
    obtain ⟨j, hj, rfl, hR, hr, hb⟩ := hrel
    by_cases hlt : j < k
    · have hlt' : (j : Int) < (k : Int) := by omega
      have hjL : j * L + L ≤ kL := by rw [← hKL, ← Nat.succ_mul]; exact Nat.mul_le_mul_right L hlt
      have hm1 : ((j : Nat) : Int) * ((L : Nat) : Int) = ((j * L : Nat) : Int) := by simp
      have hm2 : (((j : Nat) : Int) + 1) * ((L : Nat) : Int) = ((j * L + L : Nat) : Int) := by rw [Int.add_mul]; simp
      have g0 := hR.cell hlt
      rw [if_neg (by omega)] at g0
      have g1 := hR.frozen j
      have hR2 := (hR.set j (.slice (some ⟨w.heap.size, j * L, none⟩) L (kL - j * L))).congr (g := fun i => if i < j + 1 then .slice (some ⟨w.heap.size, i * L, none⟩) L (kL - i * L) else .slice none 0 0) (fun i _ => by
        by_cases e : i = j
        · subst e; rw [if_pos rfl, if_pos (by omega)]
        · rw [if_neg e]
          by_cases e2 : i < j
          · rw [if_pos e2, if_pos (by omega)]
          · rw [if_neg e2, if_neg (by omega)])
      have hr2 := hr.setOther (a := ⟨w.heap.size + 1, j, none⟩) (by show w.heap.size ≠ w.heap.size + 1; omega) (.slice (some ⟨w.heap.size, j * L, none⟩) L (kL - j * L))
      have hb2 := hb.setCell (p := ⟨w.heap.size + 1, j, none⟩) (by show w.heap.size ≤ w.heap.size + 1; omega) (.slice (some ⟨w.heap.size, j * L, none⟩) L (kL - j * L))
      clear hR hr hb z2 r3 b3
      have hif : kL = j * L → j * L = 0 := fun e => by
        have : L = 0 := by omega
        rw [this, Nat.mul_zero]
      generalize hjl : j * L = jL at *
      have hif2 : (if kL = jL then some (⟨w.heap.size, 0, none⟩ : Addr) else some ⟨w.heap.size, jL, none⟩) = some ⟨w.heap.size, jL, none⟩ := by
        by_cases e : kL = jL
        · rw [if_pos e, hif e]
        · rw [if_neg e]
      clear hif
      have d1 : (jL : Int) ≤ ((jL + L : Nat) : Int) := by omega
      have d2 : ((jL + L : Nat) : Int) ≤ (kL : Int) := by omega
      have d3 : jL + L - jL = L := by omega
      go_wp2
      go_roundw
      case rel => exact ⟨j + 1, by omega, by go_num, hR2, hr2, hb2⟩
      case measure => simp [intOf]; omega
    · obtain rfl : j = k := by omega
      have hnl : ¬ ((j : Int) < (j : Int)) := by omega
      go_wp2
      go_ret
      rw [← hKL] at hr
      exact ⟨w.heap.size + 1, rfl, w.heap.size, hR.congr fun i hi => by rw [if_pos hi, hKL], hr, ⟨by omega, Nat.le_refl _⟩, hb⟩
end Go.Proofs.YtlghjjennhpjeaaGreatDoor

/-
  In company: bytes multiplied and inverted.
-/
namespace Go.Proofs.YtlghjjennhpjeaaGreatDoor
open Go.Conc Go.RowKit Go.Gh
open Go.ConcR (Payload)

section
variable {main : Bool} {R : World → World → Prop} {D : World → World → Array Event → Prop}
def MI (R : World → World → Prop) (w0 : World) (m : Nat) (a : Act) (w : World) : Prop := ∃ (k p x y : Nat) (v2 v3 v4 v7 v8 v9 v10 v11 v12 v13 v14 v15 v16 v17 v18 v19 : Value), k ≤ 8 ∧ p < 256 ∧ x < 256 ∧ y < 256 ∧ Hid (mulN (8 - k) p x y = m) ∧ Since R w0 w ∧ a = ⟨#[.int .u8 ((x : Nat) : Int), .int .u8 ((y : Nat) : Int), v2, v3, v4, .int .u8 ((p : Nat) : Int), .int .i64 ((k : Nat) : Int), v7, v8, v9, v10, v11, v12, v13, v14, v15, v16, v17, v18, v19], []⟩
def muM (a : Act) (_ : World) : Nat := 8 - (intOf (a.tmps.getD 6 undef)).toNat
set_option maxRecDepth 100000 in
set_option maxHeartbeats 1000000 in
theorem mul_c (T : Terms R D) : ∃ n, ∀ (a b : Nat) (w : World), a < 256 → b < 256 → CallsC Tryz.prog main R D 123 #[.int .u8 (a : Int), .int .u8 (b : Int)] n w fun v w' => v = .int .u8 (mul a b : Nat) ∧ Since R w w' := by
  obtain ⟨kx, hx⟩ := timesX_c (main := main) T
  co_apply Exists.intro
  intro a b w ha hb
  co_apply callsC_of_wpC Tryz.func123 (by rfl) rfl
  have hF : Since R w w := .refl w
  simp only [Tryz.ntmps123, List.size_toArray, List.length_cons, List.length_nil, Nat.reduceAdd, Nat.reduceSub, Array.replicate_succ, Array.replicate_zero, List.push_toArray, List.append_toArray, List.nil_append, List.cons_append]
  co_go T (Since.rely T) hF (co_quiet T)
  co_apply wpC_loop T (MI R w (mul a b)) muM _ 8
  · exact ⟨0, 0, a, b, _, _, _, _, _, _, _, _, _, _, _, _, _, _, _, _, by omega, by omega, ha, hb, rfl, hF, rfl⟩
  · simp [muM]
  · rintro act w' ⟨k, p, x, y, v2, v3, v4, v7, v8, v9, v10, v11, v12, v13, v14, v15, v16, v17, v18, v19, hk, hp, hx', hy, H, hF, rfl⟩
    co_go T (Since.rely T) hF (co_quiet T)
    co_split T (decide (((k : Nat) : Int) < 8))
    · intro hlt
      have hlt' : k < 8 := by have := of_decide_eq_true hlt; omega
      clear hlt
      have hand := u8_and1 y hy
      have G := mulN_step hlt' H.out
      clear H
      co_ctl T
      co_then
      co_ctl T
      co_ctl T
      co_apply wpC_seq_mid T (fun a' w' => ∃ (p' : Nat) (v8 v9 v10 v11 v12 v13 : Value), p' < 256 ∧ p' = (if y % 2 = 1 then p ^^^ x else p) ∧ Since R w w' ∧ a' = ⟨#[.int .u8 ((x : Nat) : Int), .int .u8 ((y : Nat) : Int), v2, v3, v4, .int .u8 ((p' : Nat) : Int), .int .i64 ((k : Nat) : Int), .bool (decide (((k : Nat) : Int) < 8)), v8, v9, v10, v11, v12, v13, v14, v15, v16, v17, v18, v19], []⟩)
      · co_go T (Since.rely T) hF (co_quiet T)
        co_split T (((y : Nat) : Int) % 2 == 1)
        · intro h1
          have h2 : y % 2 = 1 := by simp at h1; omega
          clear h1
          co_go T (Since.rely T) hF (co_quiet T)
          rw [u8_xor_b hp hx']
          exact ⟨p ^^^ x, _, _, _, _, _, _, xor_lt hp hx', by rw [if_pos h2], hF, rfl⟩
        · intro h1
          have h2 : ¬ y % 2 = 1 := by simp at h1; omega
          clear h1
          co_go T (Since.rely T) hF (co_quiet T)
          exact ⟨p, _, _, _, _, _, _, hp, by rw [if_neg h2], hF, rfl⟩
      · clear hF
        rintro a' w' ⟨p', v8, v9, v10, v11, v12, v13, hp', hpe, hF, rfl⟩
        rw [← hpe] at G
        clear hpe
        co_go T (Since.rely T) hF (co_quiet T)
        co_apply opsC_call T rfl (by rfl) rfl
        · walk_nrm
          exact hx _ _ hx'
        rintro v w' ⟨rfl, hs⟩
        replace hF : Since R w w' := hs.elim (fun e => e ▸ hF) (fun r => Since.rely T hF r)
        clear hs
        walk_nrm
        co_go T (Since.rely T) hF (co_quiet T)
        have e1 : ((y : Nat) : Int) / 2 = ((y / 2 : Nat) : Int) := by omega
        have e2 : IntKind.i64.wrap (((k : Nat) : Int) + 1) = ((k + 1 : Nat) : Int) := by rw [IntKind.wrap_i64]; omega
        simp only [e1, e2]
        refine ⟨⟨k + 1, p', tx x, y / 2, _, _, _, _, _, _, _, _, _, _, _, _, _, _, _, _, by omega, hp', tx_lt hx', by omega, G, hF, rfl⟩, ?_⟩
        simp [muM, intOf]
        omega
    · intro hlt
      obtain rfl : k = 8 := by have := of_decide_eq_false hlt; omega
      clear hlt
      co_go T (Since.rely T) hF (co_quiet T)
      refine ⟨rfl, _, resultsC_tmp (by rfl) _, ?_, hF⟩
      have G : p = mul a b := H.out
      simp [G]

def II (R : World → World → Prop) (w0 : World) (m : Nat) (a : Act) (w : World) : Prop := ∃ (k p x : Nat) (v0 v1 v2 v5 v7 v8 v9 v10 v11 v12 v13 v14 v15 : Value), k ≤ 7 ∧ p < 256 ∧ x < 256 ∧ Hid (invN (7 - k) p x = m) ∧ Since R w0 w ∧ a = ⟨#[v0, v1, v2, .int .u8 ((p : Nat) : Int), .int .u8 ((x : Nat) : Int), v5, .int .i64 ((k : Nat) : Int), v7, v8, v9, v10, v11, v12, v13, v14, v15], []⟩
def muI7 (a : Act) (_ : World) : Nat := 7 - (intOf (a.tmps.getD 6 undef)).toNat
set_option maxRecDepth 100000 in
set_option maxHeartbeats 1000000 in
theorem inv_c (T : Terms R D) : ∃ n, ∀ (a : Nat) (w : World), a < 256 → CallsC Tryz.prog main R D 94 #[.int .u8 (a : Int)] n w fun v w' => v = .int .u8 (inv a : Nat) ∧ Since R w w' := by
  obtain ⟨kx, hx⟩ := mul_c (main := main) T
  co_apply Exists.intro
  intro a w ha
  co_apply callsC_of_wpC Tryz.func94 (by rfl) rfl
  have hF : Since R w w := .refl w
  simp only [Tryz.ntmps94, List.size_toArray, List.length_cons, List.length_nil, Nat.reduceAdd, Nat.reduceSub, Array.replicate_succ, Array.replicate_zero, List.push_toArray, List.append_toArray, List.nil_append, List.cons_append]
  co_go T (Since.rely T) hF (co_quiet T)
  co_apply wpC_loop T (II R w (inv a)) muI7 _ 7
  · exact ⟨0, a, 1, _, _, _, _, _, _, _, _, _, _, _, _, _, by omega, ha, by omega, rfl, hF, rfl⟩
  · simp [muI7]
  · rintro act w' ⟨k, p, x, v0, v1, v2, v5, v7, v8, v9, v10, v11, v12, v13, v14, v15, hk, hp, hx', H, hF, rfl⟩
    co_go T (Since.rely T) hF (co_quiet T)
    co_split T (decide (((k : Nat) : Int) < 7))
    · intro hlt
      have hlt' : k < 7 := by have := of_decide_eq_true hlt; omega
      clear hlt
      have hpp : mul p p < 256 := mul_lt hp
      co_go T (Since.rely T) hF (co_quiet T)
      co_apply opsC_call T rfl (by rfl) rfl
      · walk_nrm
        exact hx _ _ _ hp hp
      rintro v w' ⟨rfl, hs⟩
      replace hF : Since R w w' := hs.elim (fun e => e ▸ hF) (fun r => Since.rely T hF r)
      clear hs
      walk_nrm
      co_go T (Since.rely T) hF (co_quiet T)
      co_apply opsC_call T rfl (by rfl) rfl
      · walk_nrm
        exact hx _ _ _ hx' hpp
      rintro v w' ⟨rfl, hs⟩
      replace hF : Since R w w' := hs.elim (fun e => e ▸ hF) (fun r => Since.rely T hF r)
      clear hs
      walk_nrm
      co_go T (Since.rely T) hF (co_quiet T)
      have e2 : IntKind.i64.wrap (((k : Nat) : Int) + 1) = ((k + 1 : Nat) : Int) := by rw [IntKind.wrap_i64]; omega
      simp only [e2]
      refine ⟨⟨k + 1, mul p p, mul x (mul p p), _, _, _, _, _, _, _, _, _, _, _, _, _, by omega, hpp, mul_lt hx', invN_step hlt' H.out, hF, rfl⟩, ?_⟩
      simp [muI7, intOf]
      omega
    · intro hlt
      obtain rfl : k = 7 := by have := of_decide_eq_false hlt; omega
      clear hlt
      co_go T (Since.rely T) hF (co_quiet T)
      refine ⟨rfl, _, resultsC_tmp (by rfl) _, ?_, hF⟩
      have G : x = inv a := H.out
      simp [G]
end
end Go.Proofs.YtlghjjennhpjeaaGreatDoor

/-
  In company: a row of the code.
-/
namespace Go.Proofs.YtlghjjennhpjeaaGreatDoor
open Go.Conc Go.RowKit Go.Gh
open Go.ConcR (Payload)

def rowL (k i c : Nat) : List Nat := (List.range k).map fun j => if j < c then rowV k i j else 0
theorem rowL_zero (k i : Nat) : rowL k i 0 = List.replicate k 0 := by
  unfold rowL
  apply List.ext_getElem?
  intro j
  by_cases h : j < k <;> simp [h]
theorem rowL_set (k i c : Nat) (hc : c < k) : (rowL k i c).set c (rowV k i c) = rowL k i (c + 1) := by
  unfold rowL
  apply List.ext_getElem?
  intro j
  rw [List.getElem?_set]
  by_cases h : c = j
  · subst h
    simp [hc]
  · rw [if_neg h]
    by_cases hj : j < k
    · simp only [List.getElem?_map, List.getElem?_range hj, Option.map_some]
      by_cases h1 : j < c
      · rw [if_pos h1, if_pos (by omega)]
      · rw [if_neg h1, if_neg (by omega)]
    · simp [hj]
theorem rowL_end (k i : Nat) : rowL k i k = (List.range k).map (rowV k i) := by
  unfold rowL
  exact List.map_congr_left fun j hj => by rw [if_pos (by simpa using hj)]
theorem rowL_unit (k i : Nat) (hi : i < k) : (List.replicate k 0).set i 1 = (List.range k).map (rowV k i) := by
  apply List.ext_getElem?
  intro j
  rw [List.getElem?_set]
  by_cases h : i = j
  · subst h
    simp [hi, rowV]
  · rw [if_neg h]
    by_cases hj : j < k
    · simp [hj, rowV, hi, Ne.symm h]
    · simp [hj]

section
variable [Payload] [OldG] {main : Bool} {Wg C n B : Nat} {Cl : Nat → Prop}
omit [OldG] in
theorem CG.set {w0 w : World} (h0 : Bs C B w0) {N : Nat} {cur : List Nat} (h : CG Wg C n B Cl w0 N cur w) (i x : Nat) : CG Wg C n B Cl w0 N (cur.set i x) (w.setCell ⟨N, i, none⟩ (.int .u8 ((x : Nat) : Int))) :=
  ⟨h.bs.set _ _, ex_fresh h.ex h0 h.lo _, h.lo, mine_grow (w := w) (w' := w.setCell _ _) rfl (by rw [sz_set]; omega) h.mn, by rw [heap_set w h.hx, bytesA_set]⟩
omit [Payload] [OldG] in
theorem make_c (k : Nat) (hk : k ≤ 128) : (∀ w : World, (Instr.makeSlice 24 (.int .i64 (k : Int)) (.int .i64 (k : Int))).run Tryz.prog w = .ok (.slice (some ⟨w.heap.size, 0, none⟩) k k) (w.alloc (.cells (madeCells #[.int .u8 0] k) 5))) ∧ ∀ (w : World) (es : Array Event), (Instr.makeSlice 24 (.int .i64 (k : Int)) (.int .i64 (k : Int))).events Tryz.prog w es = es := by
  obtain ⟨i0, hi, hz0, hz1, hz2⟩ := info_parts info_u8
  refine ⟨fun w => ?_, fun w es => ?_⟩
  · have := run_make (P := Tryz.prog) w 24 5 i0 (.int .u8 0) Tryz.underlying24 hi hz0 .i64 .i64 (k : Int) (k : Int) (by omega) (by omega) (by rw [hz2]; omega) (by omega)
    rw [hz1, show (Value.int .u8 0).cells = #[.int .u8 0] from rfl] at this
    simpa using this
  · exact events_make (P := Tryz.prog) w 24 5 i0 (.int .u8 0) Tryz.underlying24 hi hz0 .i64 .i64 (k : Int) (k : Int) (by omega) (by omega) (by rw [hz2]; omega) (by omega) (by rw [hz2]; simp; omega) es

set_option maxRecDepth 100000 in
set_option maxHeartbeats 2000000 in
theorem unitRow_c (k i : Nat) (hk : k ≤ 128) (hi : i < k) : ∃ q, ∀ (w : World), Bs C B w →
    CallsC Tryz.prog main (Ro Wg C n B Cl) (Dg Wg C n B Cl) 93 #[.int .i64 ((k : Nat) : Int), .int .i64 ((i : Nat) : Int)] q w fun v w' => ∃ N, v = .slice (some ⟨N, 0, none⟩) k k ∧ CG Wg C n B Cl w N ((List.range k).map (rowV k i)) w' := by
  obtain ⟨hmk, hme⟩ := make_c k hk
  have hiI : (i : Int) < (k : Int) := by omega
  co_apply Exists.intro
  intro w hb
  co_apply callsC_of_wpC Tryz.func93 (by rfl) rfl
  simp only [Tryz.ntmps93, List.size_toArray, List.length_cons, List.length_nil, Nat.reduceAdd, Nat.reduceSub, Array.replicate_succ, Array.replicate_zero, List.push_toArray, List.append_toArray, List.nil_append, List.cons_append]
  have hF : CF Wg C n B Cl w w := ⟨hb, .refl w⟩
  co_apply wpC_seq termsG
  co_reg termsG
  co_op CF.rely hF (co_quiet termsG)
  co_apply opsC_nil termsG
  co_then
  co_apply wpC_seq termsG
  co_reg termsG
  co_op CF.rely hF (co_quiet termsG)
  co_opw CF.rely hF (skip) (rw [listed_nil (by simp [go_sem, *])]; exact dg_alloc hF.bs.hC _ rfl)
  replace hF := hF.alloc k
  generalize hN : Array.size (World.heap _) = N at hF ⊢
  clear hN
  co_op CG.rely hF (co_quiet termsG)
  co_apply opsC_nil termsG
  co_then
  co_apply wpC_seq termsG
  co_reg termsG
  co_op CG.rely hF (co_quiet termsG)
  co_op CG.rely hF (co_quiet termsG)
  co_opw CG.rely hF (skip) (co_still termsG)
  have hNC : N ≠ C := by have := hF.lo; have := hb.hC; omega
  have hu : ∀ {w : World} (h : w.heap[N]? = some (.cells (bytesA (List.replicate k 0)) 5)), w.cell? ⟨N, i, none⟩ = some (.int .u8 0) ∧ w.frozen? ⟨N, i, none⟩ = false := fun h => ⟨by rw [cell_of _ h, bytesA_get]; simp [hi], thaw_of _ h i⟩
  co_opw CG.rely hF (have hc := (hu hF.hx).1; have hz := (hu hF.hx).2) (refine dg_set hF.mn hNC (hF.bs.lt hF.mn) ?_; co_evs (exact ⟨_, _, rfl, rfl⟩))
  replace hF := hF.set hb i 1
  rw [rowL_unit k i hi] at hF
  clear hc hz
  co_apply opsC_nil termsG
  co_then
  co_apply wpC_seq termsG
  co_reg termsG
  co_op CG.rely hF (co_quiet termsG)
  co_op CG.rely hF (co_quiet termsG)
  co_apply opsC_nil termsG
  co_then
  co_apply wpC_ret termsG
  exact ⟨rfl, _, resultsC_tmp (by rfl) _, N, rfl, hF⟩

def RoI (Wg C n B : Nat) (Cl : Nat → Prop) (w0 : World) (k i N : Nat) (a : Act) (w : World) : Prop :=
  ∃ (j : Nat) (v2 v3 v4 v6 v7 v8 v9 v10 v11 v12 v13 v14 v15 v18 v19 v20 v21 v22 v23 v24 v25 v26 v27 v28 v29 : Value), j ≤ k ∧ CG Wg C n B Cl w0 N (rowL k i j) w ∧ a = ⟨#[.int .i64 ((k : Nat) : Int), .int .i64 ((i : Nat) : Int), v2, v3, v4, .slice (some ⟨N, 0, none⟩) k k, v6, v7, v8, v9, v10, v11, v12, v13, v14, v15, .int .i64 ((k : Nat) : Int), .int .i64 ((j : Nat) : Int), v18, v19, v20, v21, v22, v23, v24, v25, v26, v27, v28, v29], []⟩
def muR (k : Nat) (a : Act) (_ : World) : Nat := k - (intOf (a.tmps.getD 17 undef)).toNat

set_option maxRecDepth 100000 in
set_option maxHeartbeats 2000000 in
theorem row_c (k i : Nat) (hk : k ≤ 128) (hi : i < 128) : ∃ q, ∀ (w : World), Bs C B w →
    CallsC Tryz.prog main (Ro Wg C n B Cl) (Dg Wg C n B Cl) 75 #[.int .i64 ((k : Nat) : Int), .int .i64 ((i : Nat) : Int)] q w fun v w' => ∃ N, v = .slice (some ⟨N, 0, none⟩) k k ∧ CG Wg C n B Cl w N ((List.range k).map (rowV k i)) w' := by
  obtain ⟨hmk, hme⟩ := make_c k hk
  by_cases hik : i < k
  · obtain ⟨qu, hu⟩ := unitRow_c (main := main) (Wg := Wg) (C := C) (n := n) (B := B) (Cl := Cl) k i hk hik
    have hiI : (i : Int) < (k : Int) := by omega
    co_apply Exists.intro
    intro w hb
    co_apply callsC_of_wpC Tryz.func75 (by rfl) rfl
    simp only [Tryz.ntmps75, List.size_toArray, List.length_cons, List.length_nil, Nat.reduceAdd, Nat.reduceSub, Array.replicate_succ, Array.replicate_zero, List.push_toArray, List.append_toArray, List.nil_append, List.cons_append]
    have hF : CF Wg C n B Cl w w := ⟨hb, .refl w⟩
    co_apply wpC_seq termsG
    co_reg termsG
    co_op CF.rely hF (co_quiet termsG)
    co_apply opsC_nil termsG
    co_then
    co_apply wpC_seq termsG (n₂ := 0)
    co_apply wpC_seq termsG
    co_reg termsG
    co_op CF.rely hF (co_quiet termsG)
    co_op CF.rely hF (co_quiet termsG)
    co_op CF.rely hF (co_quiet termsG)
    co_apply opsC_nil termsG
    co_then
    co_apply wpC_cond termsG (t := true)
    focus (simp [Act.eval])
    simp only [if_true]
    co_go termsG CF.rely hF (co_quiet termsG)
    co_apply opsC_call termsG rfl (by rfl) rfl
    · walk_nrm
      exact hu _ hF.bs
    rintro v w' ⟨N, rfl, hg⟩
    replace hF : CG Wg C n B Cl w N ((List.range k).map (rowV k i)) w' := ⟨hg.bs, hF.ex.trans hg.ex, Nat.le_trans hF.ex.size hg.lo, hg.mn, hg.hx⟩
    clear hg
    walk_nrm
    co_go termsG CG.rely hF (co_quiet termsG)
    exact ⟨rfl, _, resultsC_tmp (by rfl) _, N, rfl, hF⟩
  · obtain ⟨qi, hv⟩ := inv_c (main := main) (termsG (Wg := Wg) (C := C) (n := n) (B := B) (Cl := Cl))
    have hiI : ¬ ((i : Int) < (k : Int)) := by omega
    co_apply Exists.intro
    intro w hb
    co_apply callsC_of_wpC Tryz.func75 (by rfl) rfl
    simp only [Tryz.ntmps75, List.size_toArray, List.length_cons, List.length_nil, Nat.reduceAdd, Nat.reduceSub, Array.replicate_succ, Array.replicate_zero, List.push_toArray, List.append_toArray, List.nil_append, List.cons_append]
    have hF : CF Wg C n B Cl w w := ⟨hb, .refl w⟩
    co_apply wpC_seq termsG
    co_reg termsG
    co_op CF.rely hF (co_quiet termsG)
    co_apply opsC_nil termsG
    co_then
    co_apply wpC_seq termsG
    co_apply wpC_seq termsG
    co_reg termsG
    co_op CF.rely hF (co_quiet termsG)
    co_op CF.rely hF (co_quiet termsG)
    co_op CF.rely hF (co_quiet termsG)
    co_apply opsC_nil termsG
    co_then
    co_apply wpC_cond termsG (t := false)
    focus (simp [Act.eval])
    simp only [Bool.false_eq_true, if_false]
    co_apply wpC_skip termsG
    co_then
    co_apply wpC_seq termsG
    co_reg termsG
    co_op CF.rely hF (co_quiet termsG)
    co_opw CF.rely hF (skip) (rw [listed_nil (by simp [go_sem, *])]; exact dg_alloc hF.bs.hC _ rfl)
    replace hF := hF.alloc k
    rw [← rowL_zero k i] at hF
    generalize hN : Array.size (World.heap _) = N at hF ⊢
    clear hN
    have hNC : N ≠ C := by have := hF.lo; have := hb.hC; omega
    co_op CG.rely hF (co_quiet termsG)
    co_apply opsC_nil termsG
    co_then
    co_apply wpC_seq termsG
    co_apply wpC_seq termsG
    co_reg termsG
    co_op CG.rely hF (co_quiet termsG)
    co_op CG.rely hF (co_quiet termsG)
    co_op CG.rely hF (co_quiet termsG)
    co_apply opsC_nil termsG
    co_then
    co_apply wpC_block termsG
    co_apply wpC_loop termsG (RoI Wg C n B Cl w k i N) (muR k) _ k
    · exact ⟨0, _, _, _, _, _, _, _, _, _, _, _, _, _, _, _, _, _, _, _, _, _, _, _, _, _, Nat.zero_le _, hF, rfl⟩
    · simp [muR]
    rintro a w' ⟨j, v2, v3, v4, v6, v7, v8, v9, v10, v11, v12, v13, v14, v15, v18, v19, v20, v21, v22, v23, v24, v25, v26, v27, v28, v29, hj, hF, rfl⟩
    co_apply wpC_seq termsG
    co_reg termsG
    co_op CG.rely hF (co_quiet termsG)
    co_apply opsC_nil termsG
    co_then
    co_apply wpC_seq termsG
    co_split termsG (decide ((j : Int) < (k : Int)))
    · intro hjl
      have hjl' : j < k := by have := of_decide_eq_true hjl; omega
      have hjI : (j : Int) < (k : Int) := by omega
      clear hjl
      have hx128 : i ^^^ j < 128 := xor_lt128 hi (by omega)
      have hxr : bits .xor .i64 ((i : Nat) : Int) ((j : Nat) : Int) = ((i ^^^ j : Nat) : Int) := i64_xor_nat _ _ (by omega) (by omega)
      have hcv : IntKind.u8.wrap (((i ^^^ j : Nat) : Int)) = ((i ^^^ j : Nat) : Int) := by rw [IntKind.wrap_u8]; omega
      have hrv : rowV k i j = inv (i ^^^ j) := by unfold rowV; rw [if_neg hik, Nat.mod_eq_of_lt (by omega)]
      co_ctl termsG
      co_then
      co_ctl termsG
      co_ctl termsG
      co_ctl termsG
      co_reg termsG
      co_op CG.rely hF (co_quiet termsG)
      co_op CG.rely hF (co_quiet termsG)
      co_apply opsC_nil termsG
      co_then
      co_reg termsG
      co_op CG.rely hF (co_quiet termsG)
      co_op CG.rely hF (co_quiet termsG)
      co_op CG.rely hF (co_quiet termsG)
      co_op CG.rely hF (co_quiet termsG)
      co_op CG.rely hF (co_quiet termsG)
      have hce : ∀ (w : World) (es : Array Event), (convert 3 5 (.int .i64 ((i ^^^ j : Nat) : Int))).events Tryz.prog w es = es := fun w es => by simp [convert, Conv.intToInt, go_sem, Tryz.runUnderlying3, Tryz.runUnderlying5]
      co_opw CG.rely hF (skip) (co_still termsG)
      clear hce
      co_apply opsC_call termsG rfl (by rfl) rfl
      · walk_nrm
        exact hv _ _ (show i ^^^ j < 256 by omega)
      rintro v w' ⟨rfl, hs⟩
      replace hF : CG Wg C n B Cl w N (rowL k i j) w' := hs.elim (fun e => e ▸ hF) (fun r => hF.rely r)
      clear hs
      walk_nrm
      co_opw CG.rely hF (skip) (co_still termsG)
      have hcl : ∀ {w : World} (h : w.heap[N]? = some (.cells (bytesA (rowL k i j)) 5)), w.cell? ⟨N, j, none⟩ = some (.int .u8 0) ∧ w.frozen? ⟨N, j, none⟩ = false := fun h => ⟨by rw [cell_of _ h, bytesA_get]; simp [rowL, hjl'], thaw_of _ h j⟩
      co_opw CG.rely hF (have hc := (hcl hF.hx).1; have hz := (hcl hF.hx).2) (refine dg_set hF.mn hNC (hF.bs.lt hF.mn) ?_; co_evs (exact ⟨_, _, rfl, rfl⟩))
      replace hF := hF.set hb j (inv (i ^^^ j))
      rw [show (rowL k i j).set j (inv (i ^^^ j)) = rowL k i (j + 1) from by rw [← hrv, rowL_set k i j hjl']] at hF
      clear hc hz
      co_apply opsC_nil termsG
      co_then
      co_reg termsG
      co_op CG.rely hF (co_quiet termsG)
      co_op CG.rely hF (co_quiet termsG)
      co_apply opsC_nil termsG
      co_then
      have hw1 : IntKind.i64.wrap ((j : Int) + 1) = ((j + 1 : Nat) : Int) := by rw [IntKind.wrap_i64]; omega
      simp only [hw1]
      refine ⟨⟨j + 1, _, _, _, _, _, _, _, _, _, _, _, _, _, _, _, _, _, _, _, _, _, _, _, _, _, by omega, hF, rfl⟩, ?_⟩
      simp [muR, intOf]
      omega
    · intro hjl
      obtain rfl : j = k := by have := of_decide_eq_false hjl; omega
      clear hjl
      rw [rowL_end] at hF
      co_go termsG CG.rely hF (co_quiet termsG)
      exact ⟨rfl, _, resultsC_tmp (by rfl) _, N, rfl, hF⟩
end
end Go.Proofs.YtlghjjennhpjeaaGreatDoor

/-
  In company: a worker of coding.Columns: a column is reckoned and laid into its place.
-/
namespace Go.Proofs.YtlghjjennhpjeaaGreatDoor
open Go.Conc Go.ConcN Go.RowKit Go.Gh Go.Conc.Lib Go.ConcR.Gen Go.ConcN.Gen
open Go.ConcR (Payload)

/-- What a worker has been handed: the variables columns, i, k, pieces; the list of the pieces. -/
structure CapC where
  ba : Nat
  bj : Nat
  bk : Nat
  bd : Nat
  bD : Nat
  oD : Nat
  cD : Nat

theorem callsC_le {P : Program} {main : Bool} {R : World → World → Prop} {D : World → World → Array Event → Prop} {f : FuncId} {args : Array Value} {n m : Nat} {w : World} {Post : Value → World → Prop} (h : CallsC P main R D f args n w Post) (hn : n ≤ m) : CallsC P main R D f args m w Post :=
  let ⟨fn, c, h1, h2, h3, h4⟩ := h
  ⟨fn, c, h1, h2, h3, wpC_more h4 hn⟩

section
variable [Payload] [OldG] {main : Bool} {Wg C n B : Nat} {Cl : Nat → Prop}
structure WIc (Wg C n B : Nat) (c : CapC) (k L idx : Nat) (cs : List Col) (w : World) : Prop where
  bs : Bs C B w
  pay : PayAt C n w
  ra : Rdb Wg C B w c.ba
  va : w.cell? ⟨c.ba, 0, none⟩ = some (.slice (some ⟨C, 0, none⟩) n n)
  rj : Rdb Wg C B w c.bj
  vj : w.cell? ⟨c.bj, 0, none⟩ = some (.int .i64 ((idx : Nat) : Int))
  rk : Rdb Wg C B w c.bk
  vk : w.cell? ⟨c.bk, 0, none⟩ = some (.int .i64 ((k : Nat) : Int))
  rd : Rdb Wg C B w c.bd
  vd : w.cell? ⟨c.bd, 0, none⟩ = some (.slice (some ⟨c.bD, c.oD, none⟩) k c.cD)
  rc : Rdb Wg C B w c.bD
  hc : ∀ j d, cs[j]? = some d → w.cell? ⟨c.bD, c.oD + j, none⟩ = some (.slice d.bs L d.co)
  hcol : ∀ d ∈ cs, Rdb Wg C B w d.bo ∧ (0 < L → d.bs = some ⟨d.bo, d.oo, none⟩) ∧ ∀ i y, d.ys[i]? = some y → w.cell? ⟨d.bo, d.oo + i, none⟩ = some (.int .u8 ((y : Nat) : Int))
theorem WIc.ex {w w₁ : World} {c : CapC} {k L idx : Nat} {cs : List Col} (h : WIc Wg C n B c k L idx cs w) (hb : Bs C B w₁) (r : Ex Wg C n B Cl (fun _ => False) w w₁) : WIc Wg C n B c k L idx cs w₁ := by
  have st : ∀ {b : Nat}, Rdb Wg C B w b → ∀ o, w₁.cell? ⟨b, o, none⟩ = w.cell? ⟨b, o, none⟩ := fun hb o => by simp only [World.cell?, r.stands hb id]
  exact ⟨hb, r.pay h.pay, r.rdb h.ra, (st h.ra _).trans h.va, r.rdb h.rj, (st h.rj _).trans h.vj, r.rdb h.rk, (st h.rk _).trans h.vk, r.rdb h.rd, (st h.rd _).trans h.vd, r.rdb h.rc, fun j d e => (st h.rc _).trans (h.hc j d e), fun d hd => let ⟨h1, h2, h3⟩ := h.hcol d hd; ⟨r.rdb h1, h2, fun i y e => (st h1 _).trans (h3 i y e)⟩⟩
theorem WIc.rely {w w₁ : World} {c : CapC} {k L idx : Nat} {cs : List Col} (h : WIc Wg C n B c k L idx cs w) (r : Ro Wg C n B Cl w w₁) : WIc Wg C n B c k L idx cs w₁ := h.ex (h.bs.rely r) r.ex
theorem WIc.cin {w : World} {c : CapC} {k L idx N : Nat} {ws : List Nat} {cs : List Col} (h : WIc Wg C n B c k L idx cs w) (hm : Mine w N) (hx : w.heap[N]? = some (.cells (bytesA ws) 5)) : CIn Wg C B N 0 c.bD c.oD L ws cs w :=
  ⟨.inl hm, h.bs.lt hm, h.rc, h.bs.rdb_lt h.rc, fun j x e => by rw [Nat.zero_add, cell_of _ hx, bytesA_get, e]; rfl, h.hc, fun d hd => let ⟨h1, h2, h3⟩ := h.hcol d hd; ⟨h1, h.bs.rdb_lt h1, h2, h3⟩⟩

def w0C : Frame := baseD 84
noncomputable def wbotC : Frame := { (default : Frame) with fn := Tryz.prog.funcs.size, defers := [], mode := .panicking [goexitEntry] }
noncomputable def wbodyC : Code := Tryz.f84.body.getD .skip
def caughtC (Wg : Nat) (c : CapC) : Array Value := #[.pointer (some ⟨Wg, 0, none⟩), .pointer (some ⟨c.bk, 0, none⟩), .pointer (some ⟨c.bj, 0, none⟩), .pointer (some ⟨c.bd, 0, none⟩), .pointer (some ⟨c.ba, 0, none⟩)]
def wcallC (Wg : Nat) (c : CapC) : Deferred := { target := .fn (.func 84) (caughtC Wg c), args := #[] }

omit [Payload] [OldG] in
theorem w_bornC (c : CapC) (w : World) : stepG Tryz.prog false (born Tryz.prog (wcallC Wg c)) w = .go (G (w0C.at ⟨caughtC Wg c ++ Array.replicate 8 undef, []⟩ [.code wbodyC]) [wbotC]) w #[] := by
  simp [born, wcallC, caughtC, stepG, unwind, callDeferred, invoke, callFunc, Tryz.func84, Tryz.f84, seen, GStep.after, G, Frame.enter, Frame.at, w0C, baseD, wbotC, wbodyC]

omit [Payload] [OldG] in
theorem w_quitsC (T : Array Value) : QuitsD Tryz.prog 2 0 (G { w0C.at ⟨T, []⟩ [] with mode := .returning } [wbotC]) := by
  refine QuitsD.ctl (g' := G wbotC []) rfl (fun w => ?_) ?_
  · simp [G, stepG, unwind, doReturn, results, Frame.at, w0C, baseD, wbotC, Tryz.func84, Tryz.f84, seen, GStep.after, goexitEntry]
  refine QuitsD.ctl (g' := { G wbotC [] with status := .finished }) rfl (fun w => ?_) ⟨rfl, rfl⟩
  simp [G, stepG, unwind, wbotC, goexitEntry, Frame.catches]
  rfl

set_option maxRecDepth 100000 in
set_option maxHeartbeats 4000000 in
theorem worksC (k L : Nat) (hk0 : 0 < k) (hk : k ≤ 128) (hn : n ≤ 128) (hL : L ≤ 140737488355328) (idx : Nat) (hidx : idx < n) : ∃ m, ∀ (w : World) (c : CapC) (cs : List Col) (res : Nat → List Nat), cs.length = k → (∀ c ∈ cs, LenIs c.ys L ∧ ∀ y ∈ c.ys, y < 256) →
    res idx = comb (zsOf ((List.range k).map (rowV k idx)) cs) (List.replicate L 0) → WIc Wg C n B c k L idx cs w → Wk Tryz.prog link.tWg Wg C n B (WPr C L res) idx m (born Tryz.prog (wcallC Wg c)) w := by
  obtain ⟨q1, hq1⟩ := row_c (main := false) (Wg := Wg) (C := C) (n := n) (B := B) (Cl := (· = idx)) k idx hk (by omega)
  obtain ⟨q2, hq2⟩ := combine_c (main := false) (Wg := Wg) (C := C) (n := n) (B := B) (Cl := (· = idx)) k L hk0 hk hL
  refine ⟨?m, fun w c cs res hlc hcs hres hF => ?_⟩
  case m => exact (3 + (9 * (max q1 q2 + 3) + 1 + 1)) + 1 + 1 + 1 + 1 + 1
  have hiI : (idx : Int) < (n : Int) := by omega
  have T := termsG (Wg := Wg) (C := C) (n := n) (B := B) (Cl := (· = idx))
  have hlr : LenIs ((List.range k).map (rowV k idx)) k := by simp [LenIs]
  have hrl : ∀ x ∈ (List.range k).map (rowV k idx), x < 256 := fun x hx => by
    obtain ⟨j, _, rfl⟩ := List.mem_map.1 hx
    exact rowV_lt
  unfold Wk
  refine Goes.step rfl fun w₁ h₁ => ?_
  replace hF := hF.rely h₁
  clear h₁
  rw [w_bornC]
  refine ⟨T.idle _, ?_⟩
  simp only [caughtC, wbodyC, Tryz.f84, Option.getD_some, Array.replicate_succ, Array.replicate_zero, List.push_toArray, List.append_toArray, List.nil_append, List.cons_append]
  refine Goes.step rfl fun w₁ h₁ => ?_
  replace hF := hF.rely h₁
  clear h₁
  rw [stepG_seq]
  refine ⟨T.idle _, ?_⟩
  refine Goes.step rfl fun w₁ h₁ => ?_
  replace hF := hF.rely h₁
  clear h₁
  rw [stepG_region]
  refine ⟨T.idle _, ?_⟩
  simp only [List.size_toArray, List.length_cons, List.length_nil, Nat.zero_add, List.range, List.range.loop]
  refine Goes.step rfl fun w₁ h₁ => ?_
  replace hF := hF.rely h₁
  clear h₁
  rw [stepG_defer rfl rfl (by decide) rfl]
  refine ⟨T.idle _, ?_⟩
  walk_nrm
  refine Goes.step rfl fun w₁ h₁ => ?_
  replace hF := hF.rely h₁
  clear h₁
  rw [stepG_region_end]
  refine ⟨T.idle _, ?_⟩
  refine wpC_goes (m := 3) (Q := fun e a' w' => e = .normal ∧ a'.defers = [dcall 80 #[.pointer (some ⟨Wg, 0, none⟩)]] ∧ ∃ v, WD1 C L res idx v w') (wpC_region_any T drawG (S := WIc Wg C n B c k L idx cs) (lst := 8) (nf := max q1 q2) (by kernel_rfl) (fun w₁ h₁ => ?_)) rfl (by decide) ?_
  · replace hF : WIc Wg C n B c k L idx cs { w₁ with drawn := w₁.drawn + 1 } := by
      have := hF.rely h₁
      exact ⟨⟨this.bs.tg, this.bs.hC, this.bs.hB, this.bs.ow⟩, this.pay, this.ra, this.va, this.rj, this.vj, this.rk, this.vk, this.rd, this.vd, this.rc, this.hc, this.hcol⟩
    clear h₁
    have hSR : ∀ x y, WIc Wg C n B c k L idx cs x → Ro Wg C n B (· = idx) x y → WIc Wg C n B c k L idx cs y := fun _ _ h r => h.rely r
    have hQR : ∀ (a : Act) (x y : World), (Exit.normal = .normal ∧ a.defers = [dcall 80 #[.pointer (some ⟨Wg, 0, none⟩)]] ∧ ∃ v, WD1 C L res idx v x) → Ro Wg C n B (· = idx) x y → (Exit.normal = .normal ∧ a.defers = [dcall 80 #[.pointer (some ⟨Wg, 0, none⟩)]] ∧ ∃ v, WD1 C L res idx v y) := fun a x y ⟨h1, h2, v, h3⟩ r => ⟨h1, h2, v, h3.rely r⟩
    generalize { w₁ with drawn := w₁.drawn + 1 } = w2 at hF ⊢
    simp only [List.size_toArray, List.length_cons, List.length_nil, Nat.reduceAdd, Nat.zero_add]
    (co_applyP anyX_take T hSR hQR (i := 0) rfl (by kernel_rfl) (by kernel_rfl) (by kernel_rfl) (by kernel_rfl) (by kernel_rfl) (.inl ⟨by rfl, fun _ hw => ⟨run_eq_of ?runq1, ?guarq1⟩⟩) hF ?restq1
     case runq1 =>
       intro Kq hKq
       (have h1 := hw.va)
       go_simp
       exact hKq
     case guarq1 =>
       (have h1 := hw.va)
       (refine dg_read hw.ra (hw.bs.rdb_lt hw.ra) ?_; co_evs (exact ⟨_, rfl, rfl⟩))
     try walk_nrm)
    (co_applyP anyX_take T hSR hQR (i := 1) rfl (by kernel_rfl) (by kernel_rfl) (by kernel_rfl) (by kernel_rfl) (by kernel_rfl) (.inl ⟨by rfl, fun _ hw => ⟨run_eq_of ?runq2, ?guarq2⟩⟩) hF ?restq2
     case runq2 =>
       intro Kq hKq
       (have h1 := hw.vj)
       go_simp
       exact hKq
     case guarq2 =>
       (have h1 := hw.vj)
       (refine dg_read hw.rj (hw.bs.rdb_lt hw.rj) ?_; co_evs (exact ⟨_, rfl, rfl⟩))
     try walk_nrm)
    (co_applyP anyX_take T hSR hQR (i := 2) rfl (by kernel_rfl) (by kernel_rfl) (by kernel_rfl) (by kernel_rfl) (by kernel_rfl) (.inl ⟨by rfl, fun _ hw => ⟨run_eq_of ?runq3, ?guarq3⟩⟩) hF ?restq3
     case runq3 =>
       intro Kq hKq
       (have h1 := hw.vk)
       go_simp
       exact hKq
     case guarq3 =>
       (have h1 := hw.vk)
       (refine dg_read hw.rk (hw.bs.rdb_lt hw.rk) ?_; co_evs (exact ⟨_, rfl, rfl⟩))
     try walk_nrm)
    (co_applyP anyX_take T hSR hQR (i := 3) rfl (by kernel_rfl) (by kernel_rfl) (by kernel_rfl) (by kernel_rfl) (by kernel_rfl) (.inl ⟨by rfl, fun _ hw => ⟨run_eq_of ?runq4, ?guarq4⟩⟩) hF ?restq4
     case runq4 =>
       intro Kq hKq
       (have h1 := hw.vj)
       go_simp
       exact hKq
     case guarq4 =>
       (have h1 := hw.vj)
       (refine dg_read hw.rj (hw.bs.rdb_lt hw.rj) ?_; co_evs (exact ⟨_, rfl, rfl⟩))
     try walk_nrm)
    (co_applyP anyX_take T hSR hQR (i := 5) rfl (by kernel_rfl) (by kernel_rfl) (by kernel_rfl) (by kernel_rfl) (by kernel_rfl) (.inl ⟨by rfl, fun _ hw => ⟨run_eq_of ?runq5, ?guarq5⟩⟩) hF ?restq5
     case runq5 =>
       intro Kq hKq
       (have h1 := hw.vd)
       go_simp
       exact hKq
     case guarq5 =>
       (have h1 := hw.vd)
       (refine dg_read hw.rd (hw.bs.rdb_lt hw.rd) ?_; co_evs (exact ⟨_, rfl, rfl⟩))
     try walk_nrm)
    refine anyX_one (i := 4) (by kernel_rfl) ⟨_, rfl, .inr (.inl ⟨by rfl, _, _, _, (fun v w' => ∃ N, v = .slice (some ⟨N, 0, none⟩) k k ∧ CG Wg C n B (· = idx) w2 N ((List.range k).map (rowV k idx)) w'), rfl, by walk_nrm; exact callsC_le (hq1 w2 hF.bs) (Nat.le_max_left _ _), ?_⟩)⟩
    rintro v w3 ⟨N1, rfl, hg1⟩
    replace hF := hF.ex hg1.bs hg1.ex
    refine ⟨fun _ => hF, ?_⟩
    walk_nrm
    refine anyX_one (i := 6) (by kernel_rfl) ⟨_, rfl, .inr (.inl ⟨by rfl, _, _, _, (fun v w' => ∃ N, v = .slice (some ⟨N, 0, none⟩) L L ∧ CG Wg C n B (· = idx) w3 N (comb (zsOf ((List.range k).map (rowV k idx)) cs) (List.replicate L 0)) w'), rfl, by walk_nrm; exact callsC_le (hq2 w3 N1 0 k c.bD c.oD c.cD _ cs hlr hlc hrl hcs hF.bs (hF.cin hg1.mn hg1.hx)) (Nat.le_max_right _ _), ?_⟩)⟩
    rintro v w' ⟨N, rfl, hg⟩
    have hN : N ≠ C := by have := hg.lo; have := hF.bs.hC; omega
    replace hF := hF.ex hg.bs hg.ex
    have hwp : WPr C L res idx (.slice (some ⟨N, 0, none⟩) L L) w' := ⟨N, rfl, hg.mn, hN, by rw [hres]; exact hg.hx⟩
    clear hg
    refine ⟨fun _ => hF, ?_⟩
    walk_nrm
    refine anyX_one_k (i := 7) (by kernel_rfl) rfl (by rfl) (fun w₁ hR K hK => ?_)
    replace hF := hF.rely hR
    replace hwp := hwp.rely hR
    clear hR
    go_simp
    refine hK _ _ ⟨?_, fun _ => hF, ?_⟩
    · co_still T
    clear hK K
    walk_nrm
    refine anyX_one_k (i := 8) (by kernel_rfl) rfl (by rfl) (fun w₁ hR K hK => ?_)
    replace hF := hF.rely hR
    replace hwp := hwp.rely hR
    clear hR
    obtain ⟨u, hu1, hu2⟩ : ∃ u, w₁.cell? ⟨C, idx, none⟩ = some u ∧ w₁.frozen? ⟨C, idx, none⟩ = false := by
      obtain ⟨arr, h1, h2⟩ := hF.pay
      exact ⟨arr[idx]'(by omega), by simp [World.cell?, h1, h2, hidx], by simp [World.frozen?, h1]⟩
    go_simp
    try (unfold stored; go_simp)
    refine hK _ _ ⟨?_, fun h => absurd rfl h, ?_⟩
    · refine dg_cell (Cl := (· = idx)) hF.pay hF.bs.hC (i := idx) rfl _ ?_
      co_evs (exact ⟨_, rfl⟩)
    clear hK K
    walk_nrm
    refine anyX_done (by kernel_rfl) ⟨rfl, rfl, .slice (some ⟨N, 0, none⟩) L L, ⟨N, rfl, ?_, hN, ?_⟩, cell_set hF.pay hidx _⟩ _
    · obtain ⟨N', e, hm, _⟩ := hwp
      cases e
      exact mine_grow (w := w₁) (w' := w₁.setCell _ _) rfl (by rw [sz_set]; omega) hm
    · obtain ⟨N', e, _, _, hh⟩ := hwp
      cases e
      exact (Below.heap_setCell _ _ _ _ hN).trans hh
  · rintro e a' w' ⟨rfl, hd, v, hk⟩
    show Goes _ _ _ _ _ 3 (G (w0C.at a' []) [wbotC]) w'
    refine Goes.step rfl fun w₁ h₁ => ?_
    replace hk := hk.rely h₁
    clear h₁
    rw [stepG_end]
    refine ⟨T.idle _, ?_⟩
    refine Goes.step rfl fun w₁ h₁ => ?_
    replace hk := hk.rely h₁
    clear h₁
    rw [stepG_unwind_enter hd Tryz.func80 (nm_done link) rfl]
    refine ⟨T.idle _, ?_⟩
    refine Goes.stop fun w₁ h₁ => ?_
    replace hk := hk.rely h₁
    clear h₁
    refine ⟨rfl, v, hk.wp, hk.has, fun W h1 h2 => ?_⟩
    have hA := @doneN _ link Tryz.prog wgLib NoF NoF Wg C n 0 (idx + 1) v
    have := hA (c := { w0C.at ⟨a'.tmps, []⟩ [] with mode := .returning }) (cs := [wbotC]) (qt := 2) rfl (w_quitsC a'.tmps) W ⟨h1, by simpa using h2⟩
    exact this
end
end Go.Proofs.YtlghjjennhpjeaaGreatDoor

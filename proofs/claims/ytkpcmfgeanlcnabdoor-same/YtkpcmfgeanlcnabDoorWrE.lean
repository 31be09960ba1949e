/-
  What the program's Check of a shard answers.
-/
import Derived.Test.YtkpcmfgeanlcnabDoorWrC
import Derived.BigQuiet
namespace Go.Proofs.YtkpcmfgeanlcnabDoor
open Go.RowKit Go.Deep

/-- Numbers of parts that may be. -/
def PartsOk (k n : Int) : Prop := 1 ≤ k ∧ k ≤ n ∧ n ≤ 128
set_option maxHeartbeats 400000 in
set_option maxRecDepth 100000 in
theorem partsFitP_any (k n : Int) (w : World) :
    Calls Tryd.prog 13 #[.int .i64 k, .int .i64 n] w fun e w' => w' = w ∧ Tells e (PartsOk k n) := by
  by_cases h1 : 1 ≤ k
  · by_cases h2 : k ≤ n
    · by_cases h3 : n ≤ 128
      · have HF : Hid (PartsOk k n) := ⟨h1, h2, h3⟩
        go_enter Tryd.func13, Tryd.ntmps13
        go_wp2
        go_ret
        exact ⟨rfl, tells_yes rfl HF.out⟩
      · have HF : Hid (¬ PartsOk k n) := fun h => h3 h.2.2
        go_enter Tryd.func13, Tryd.ntmps13
        go_wp2
        go_ret
        exact ⟨rfl, tells_no rfl HF.out⟩
    · have HF : Hid (¬ PartsOk k n) := fun h => h2 h.2.1
      go_enter Tryd.func13, Tryd.ntmps13
      go_wp2
      go_ret
      exact ⟨rfl, tells_no rfl HF.out⟩
  · have HF : Hid (¬ PartsOk k n) := fun h => h1 h.1
    go_enter Tryd.func13, Tryd.ntmps13
    go_wp2
    go_ret
    exact ⟨rfl, tells_no rfl HF.out⟩
def ParamsOk (k n c : Int) : Prop := PartsOk k n ∧ 1 ≤ c ∧ c ≤ 65536
set_option maxHeartbeats 400000 in
set_option maxRecDepth 100000 in
theorem paramsFit_any (k n c : Int) (w : World) :
    Calls Tryd.prog 10 #[.agg #[.int .i64 k, .int .i64 n, .int .i64 c]] w fun e w' => Below w.heap.size w w' ∧ Tells e (ParamsOk k n c) := by
  by_cases h1 : PartsOk k n
  · have H1 : Hid (PartsOk k n) := h1
    clear h1
    by_cases h2 : 1 ≤ c
    · by_cases h3 : c ≤ 65536
      · go_enter Tryd.func10, Tryd.ntmps10
        go_wp2_with (first | (go_at_call 13; refine (partsFitP_any _ _ _).mono ?_; rintro r w' ⟨hw', hb⟩; obtain rfl := hb.yes H1.out; obtain rfl := hw'.symm))
        go_ret
        exact ⟨by first | exact Below.refl _ _ | exact (Below.refl _ _).alloc (Nat.le_refl _) _, tells_yes rfl ⟨H1.out, h2, h3⟩⟩
      · go_enter Tryd.func10, Tryd.ntmps10
        go_wp2_with (first | (go_at_call 13; refine (partsFitP_any _ _ _).mono ?_; rintro r w' ⟨hw', hb⟩; obtain rfl := hb.yes H1.out; obtain rfl := hw'.symm))
        go_ret
        exact ⟨by first | exact Below.refl _ _ | exact (Below.refl _ _).alloc (Nat.le_refl _) _, tells_no (ret_bool' (by simp; omega)) fun h => by have := h.2.2; omega⟩
    · go_enter Tryd.func10, Tryd.ntmps10
      go_wp2_with (first | (go_at_call 13; refine (partsFitP_any _ _ _).mono ?_; rintro r w' ⟨hw', hb⟩; obtain rfl := hb.yes H1.out; obtain rfl := hw'.symm))
      go_ret
      exact ⟨by first | exact Below.refl _ _ | exact (Below.refl _ _).alloc (Nat.le_refl _) _, tells_no rfl fun h => by have := h.2.1; omega⟩
  · have H1 : Hid (¬ PartsOk k n) := h1
    clear h1
    go_enter Tryd.func10, Tryd.ntmps10
    go_wp2_with (first | (go_at_call 13; refine (partsFitP_any _ _ _).mono ?_; rintro r w' ⟨hw', hb⟩; obtain rfl := hb.no H1.out; obtain rfl := hw'.symm))
    go_ret
    exact ⟨by first | exact Below.refl _ _ | exact (Below.refl _ _).alloc (Nat.le_refl _) _, tells_no rfl fun h => H1.out h.1⟩

/-- How many bytes of a column stand for data or are worked out of it. -/
def usedI (k i t : Nat) : Int := if k ≤ i then (lenC k t : Int) else max 0 (min (lenC k t : Int) ((t : Int) - ((i * lenC k t : Nat) : Int)))
theorem lenC_le {k : Nat} (hk : 1 ≤ k) (t : Nat) : lenC k t ≤ t := by
  unfold lenC
  rcases Nat.eq_zero_or_pos t with rfl | h
  · rw [Nat.div_eq_of_lt (by omega)]; omega
  · have h1 : (t + k - 1) / k < t + 1 := by
      rw [Nat.div_lt_iff_lt_mul (by omega)]
      have : t * 1 ≤ t * k := Nat.mul_le_mul_left t hk
      rw [Nat.add_mul]
      omega
    omega
/-- A shard as it is handed in. -/
def shV (s : Sh) (vN vS vC : Value) : Value := .agg #[.int .i64 s.K, .int .i64 s.N, .int .i64 s.I, .int .i64 s.C, vN, vS, vC]
structure Sh.In (s : Sh) (w : World) (vN vS vC : Value) : Prop where
  names : Lies w vN (nameV s.ns)
  sizes : Lies w vS (intV s.zs)
  col : Lies w vC (u8V s.col)
  nl : s.ns.length ≤ 9223372036854775807
  zl : s.zs.length ≤ 9223372036854775807
  cl : s.col.length ≤ 9223372036854775807
  ml : ∀ n ∈ s.ns, n.length ≤ 9223372036854775807
theorem Sh.In.below {s : Sh} {w w' : World} {vN vS vC : Value} (h : s.In w vN vS vC) (hb : Below w.heap.size w w') : s.In w' vN vS vC :=
  ⟨h.names.below hb, h.sizes.below hb, h.col.below hb, h.nl, h.zl, h.cl, h.ml⟩
theorem Sh.fine_iff (s : Sh) : s.Fine ↔ ParamsOk s.K s.N s.C ∧ 0 ≤ s.I ∧ s.I < s.N :=
  ⟨fun h => ⟨⟨⟨h.k1, h.kn, h.n1⟩, h.c1, h.c2⟩, h.i0, h.iN⟩, fun h => ⟨h.1.1.1, h.1.1.2.1, h.1.1.2.2, h.2.1, h.2.2, h.1.2.1, h.1.2.2⟩⟩
theorem Sh.listed_iff (s : Sh) : s.Listed ↔ ListOk s.ns s.zs := ⟨fun h => ⟨h.len, h.names, h.sizes⟩, fun h => ⟨h.1, h.2.1, h.2.2⟩⟩
theorem Sh.few_iff (s : Sh) : s.Few ↔ FewOk s.ns s.zs := ⟨fun h => ⟨h.blobs, h.bytes, h.man⟩, fun h => ⟨h.1, h.2.1, h.2.2⟩⟩

/-- A box of seven cells behind a call that leaves what lay. -/
theorem box7 {w w1 : World} {a b c d e f g : Value} {t : TypeId} (hB : Below (w.alloc (.cells #[a, b, c, d, e, f, g] t)).heap.size (w.alloc (.cells #[a, b, c, d, e, f, g] t)) w1) :
    (w1.cell? ⟨w.heap.size, 0, none⟩ = some a ∧ w1.cell? ⟨w.heap.size, 1, none⟩ = some b ∧ w1.cell? ⟨w.heap.size, 2, none⟩ = some c ∧ w1.cell? ⟨w.heap.size, 3, none⟩ = some d ∧ w1.cell? ⟨w.heap.size, 4, none⟩ = some e ∧ w1.cell? ⟨w.heap.size, 5, none⟩ = some f ∧ w1.cell? ⟨w.heap.size, 6, none⟩ = some g) ∧ Below w.heap.size w w1 := by
  have h0 : RowAt (w.alloc (.cells #[a, b, c, d, e, f, g] t)) w.heap.size [a, b, c, d, e, f, g] t := RowAt.made w [a, b, c, d, e, f, g] t
  have h1 : RowAt w1 w.heap.size [a, b, c, d, e, f, g] t := h0.later (S := fun _ => False) (.of_below hB) (by simp) id
  refine ⟨⟨h1.cell rfl, h1.cell rfl, h1.cell rfl, h1.cell rfl, h1.cell rfl, h1.cell rfl, h1.cell rfl⟩, ?_⟩
  exact ((Below.refl w.heap.size w).alloc (Nat.le_refl _) _).trans (hB.mono (by simp))

end Go.Proofs.YtkpcmfgeanlcnabDoor

/-
  What the program's Check of a shard answers where its numbers may be.
-/
namespace Go.Proofs.YtkpcmfgeanlcnabDoor
open Go.RowKit Go.Deep

/-- The first byte from a place on that is not 0, or -1. -/
def firstI (l : List UInt8) (F : Int) : Int := match (List.range l.length).find? (fun m : Nat => decide (F ≤ (m : Int) ∧ bAt l m ≠ 0)) with
  | some m => (m : Int)
  | none => -1
theorem FirstNot.is {l : List UInt8} {F : Int} {r : Ending} (h : FirstNot l F r) : r = .returned (.int .i64 (firstI l F)) := by
  obtain ⟨x, rfl, hx⟩ := h
  rcases hx with ⟨rfl, hz⟩ | ⟨m, rfl, h1, h2, h3, h4⟩
  · have : (List.range l.length).find? (fun m : Nat => decide (F ≤ (m : Int) ∧ bAt l m ≠ 0)) = none := by
      rw [List.find?_eq_none]
      intro m hm
      have := hz m
      simp only [List.mem_range] at hm
      simp only [decide_eq_true_eq]
      rintro ⟨g1, g2⟩
      exact g2 (this g1 hm)
    unfold firstI
    rw [this]
  · have : (List.range l.length).find? (fun m : Nat => decide (F ≤ (m : Int) ∧ bAt l m ≠ 0)) = some m := by
      rw [List.find?_range_eq_some]
      refine ⟨by simp only [decide_eq_true_eq]; exact ⟨h1, h3⟩, by simpa using h2, fun j hj => ?_⟩
      have := h4 j hj
      simp only [Bool.not_eq_true', decide_eq_false_iff_not]
      rintro ⟨g1, g2⟩
      exact g2 (this g1)
    unfold firstI
    rw [this]
theorem firstI_iff (l : List UInt8) (F : Int) : 0 ≤ firstI l F ↔ ∃ m : Nat, m < l.length ∧ F ≤ (m : Int) ∧ bAt l m ≠ 0 := by
  unfold firstI
  cases hf : (List.range l.length).find? (fun m : Nat => decide (F ≤ (m : Int) ∧ bAt l m ≠ 0)) with
  | some m =>
    rw [List.find?_range_eq_some] at hf
    have h1 := hf.1
    simp only [decide_eq_true_eq] at h1
    refine ⟨fun _ => ⟨m, by simpa using hf.2.1, h1.1, h1.2⟩, fun _ => by simp⟩
  | none =>
    rw [List.find?_eq_none] at hf
    refine ⟨fun h => by simp at h, fun ⟨m, h1, h2, h3⟩ => ?_⟩
    have := hf m (by simpa using h1)
    simp only [decide_eq_true_eq] at this
    exact absurd ⟨h2, h3⟩ this
theorem firstI_range (l : List UInt8) (F : Int) : -1 ≤ firstI l F ∧ firstI l F < (l.length : Int) + 1 := by
  unfold firstI
  cases hf : (List.range l.length).find? (fun m : Nat => decide (F ≤ (m : Int) ∧ bAt l m ≠ 0)) with
  | some m =>
    rw [List.find?_range_eq_some] at hf
    have : m < l.length := by simpa using hf.2.1
    simp only
    omega
  | none => simp only; omega
theorem bad_iff {k i t : Nat} {col : List UInt8} (hL : col.length = lenC k t) : 0 ≤ firstI col (usedI k i t) ↔ i < k ∧ ∃ m, m < col.length ∧ t ≤ i * lenC k t + m ∧ bAt col m ≠ 0 := by
  rw [firstI_iff]
  unfold usedI
  constructor
  · rintro ⟨m, h1, h2, h3⟩
    by_cases hk : k ≤ i
    · rw [if_pos hk] at h2; omega
    · rw [if_neg hk] at h2
      exact ⟨by omega, m, h1, by omega, h3⟩
  · rintro ⟨hk, m, h1, h2, h3⟩
    rw [if_neg (by omega)]
    exact ⟨m, h1, by omega, h3⟩
theorem usedI_range (k i t : Nat) (hk : 1 ≤ k) (ht : t ≤ 65536) : -1000000000000 ≤ usedI k i t ∧ usedI k i t ≤ 1000000000000 := by
  have h1 := lenC_le hk t
  unfold usedI
  split <;> omega
theorem Lies.drewN {w : World} {v : Value} {xs : List Value} (h : Lies w v xs) (n : Nat) : Lies (w.drewN n) v xs := by
  obtain ⟨ba, cap, rfl, hle, hc⟩ := h
  exact ⟨ba, cap, rfl, hle, fun j u hj => by
    obtain ⟨b, off, e, hh⟩ := hc j u hj
    exact ⟨b, off, e, by rw [← hh]; simp⟩⟩
theorem below_drewN {B : Nat} {a w : World} (h : Below B a w) (n : Nat) : Below B a (w.drewN n) := h.trans ⟨rfl, rfl, rfl, Nat.le_refl _, fun _ _ => rfl⟩
section
variable (K N I C : Int) (ns : List (List UInt8)) (zs : List Int) (col : List UInt8) (vN vS vC : Value) (w : World) (h : (Sh.mk K N I C ns zs col).In w vN vS vC) (H1 : Hid (ParamsOk K N C)) (i0 : 0 ≤ I) (iN : I < N)

set_option maxHeartbeats 4000000 in
set_option maxRecDepth 100000 in
include h H1 i0 iN in
set_option maxHeartbeats 4000000 in
set_option maxRecDepth 100000 in
include h H1 i0 iN in
set_option maxHeartbeats 8000000 in
set_option maxRecDepth 100000 in
include h H1 i0 iN in
end
end Go.Proofs.YtkpcmfgeanlcnabDoor

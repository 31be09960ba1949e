/-
  What the program's Check of a shard answers.
-/
import Derived.Test.YtkpcmfgeanlcnaaDoorWrC
import Derived.BigQuiet
namespace Go.Proofs.YtkpcmfgeanlcnaaDoor
open Go.RowKit Go.Deep

/-- Numbers of parts that may be. -/
def PartsOk (k n : Int) : Prop := 1 ≤ k ∧ k ≤ n ∧ n ≤ 128
set_option maxHeartbeats 400000 in
set_option maxRecDepth 100000 in
theorem partsFitP_any (k n : Int) (w : World) :
    Calls Tryd.prog 55 #[.int .i64 k, .int .i64 n] w fun e w' => w' = w ∧ Tells e (PartsOk k n) := by
  by_cases h1 : 1 ≤ k
  · by_cases h2 : k ≤ n
    · by_cases h3 : n ≤ 128
      · have HF : Hid (PartsOk k n) := ⟨h1, h2, h3⟩
        go_enter Tryd.func55, Tryd.ntmps55
        go_wp2
        go_ret
        exact ⟨rfl, tells_yes rfl HF.out⟩
      · have HF : Hid (¬ PartsOk k n) := fun h => h3 h.2.2
        go_enter Tryd.func55, Tryd.ntmps55
        go_wp2
        go_ret
        exact ⟨rfl, tells_no rfl HF.out⟩
    · have HF : Hid (¬ PartsOk k n) := fun h => h2 h.2.1
      go_enter Tryd.func55, Tryd.ntmps55
      go_wp2
      go_ret
      exact ⟨rfl, tells_no rfl HF.out⟩
  · have HF : Hid (¬ PartsOk k n) := fun h => h1 h.1
    go_enter Tryd.func55, Tryd.ntmps55
    go_wp2
    go_ret
    exact ⟨rfl, tells_no rfl HF.out⟩
def ParamsOk (k n c : Int) : Prop := PartsOk k n ∧ 1 ≤ c ∧ c ≤ 65536
set_option maxHeartbeats 400000 in
set_option maxRecDepth 100000 in
theorem paramsFit_any (k n c : Int) (w : World) :
    Calls Tryd.prog 30 #[.agg #[.int .i64 k, .int .i64 n, .int .i64 c]] w fun e w' => Below w.heap.size w w' ∧ Tells e (ParamsOk k n c) := by
  by_cases h1 : PartsOk k n
  · have H1 : Hid (PartsOk k n) := h1
    clear h1
    by_cases h2 : 1 ≤ c
    · by_cases h3 : c ≤ 65536
      · go_enter Tryd.func30, Tryd.ntmps30
        go_wp2_with (first | (go_at_call 55; refine (partsFitP_any _ _ _).mono ?_; rintro r w' ⟨hw', hb⟩; obtain rfl := hb.yes H1.out; obtain rfl := hw'.symm))
        go_ret
        exact ⟨by first | exact Below.refl _ _ | exact (Below.refl _ _).alloc (Nat.le_refl _) _, tells_yes rfl ⟨H1.out, h2, h3⟩⟩
      · go_enter Tryd.func30, Tryd.ntmps30
        go_wp2_with (first | (go_at_call 55; refine (partsFitP_any _ _ _).mono ?_; rintro r w' ⟨hw', hb⟩; obtain rfl := hb.yes H1.out; obtain rfl := hw'.symm))
        go_ret
        exact ⟨by first | exact Below.refl _ _ | exact (Below.refl _ _).alloc (Nat.le_refl _) _, tells_no (ret_bool' (by simp; omega)) fun h => by have := h.2.2; omega⟩
    · go_enter Tryd.func30, Tryd.ntmps30
      go_wp2_with (first | (go_at_call 55; refine (partsFitP_any _ _ _).mono ?_; rintro r w' ⟨hw', hb⟩; obtain rfl := hb.yes H1.out; obtain rfl := hw'.symm))
      go_ret
      exact ⟨by first | exact Below.refl _ _ | exact (Below.refl _ _).alloc (Nat.le_refl _) _, tells_no rfl fun h => by have := h.2.1; omega⟩
  · have H1 : Hid (¬ PartsOk k n) := h1
    clear h1
    go_enter Tryd.func30, Tryd.ntmps30
    go_wp2_with (first | (go_at_call 55; refine (partsFitP_any _ _ _).mono ?_; rintro r w' ⟨hw', hb⟩; obtain rfl := hb.no H1.out; obtain rfl := hw'.symm))
    go_ret
    exact ⟨by first | exact Below.refl _ _ | exact (Below.refl _ _).alloc (Nat.le_refl _) _, tells_no rfl fun h => H1.out h.1⟩

/-- How many bytes of a column stand for data or are worked out of it. -/
def usedI (k i t : Nat) : Int := if k ≤ i then (lenC k t : Int) else max 0 (min (lenC k t : Int) ((t : Int) - ((i * lenC k t : Nat) : Int)))
theorem lenC_le {k : Nat} (hk : 1 ≤ k) (t : Nat) : lenC k t ≤ t := by
  unfold lenC
  rcases Nat.eq_zero_or_pos t with rfl | h
  · rw [Nat.div_eq_of_lt (by omega)]; omega
  · have h1 : (t + k - 1) / k < t + 1 := by
      rw [Nat.div_lt_iff_lt_mul (by omega)]
      have : t * 1 ≤ t * k := Nat.mul_le_mul_left t hk
      rw [Nat.add_mul]
      omega
    omega
set_option maxHeartbeats 1000000 in
set_option maxRecDepth 100000 in
theorem used_any (K I T : Int) (k i t : Nat) (hK : K = k) (hI : I = i) (hT : T = t) (hk : 1 ≤ k) (hk2 : k ≤ 255) (hi : i ≤ 255) (ht : t ≤ 65536) (w : World) :
    Calls Tryd.prog 78 #[.int .i64 K, .int .i64 I, .int .i64 T] w fun r w' => r = .returned (.int .i64 (usedI k i t)) ∧ w' = w := by
  have K1 := clength_any K T k t hK hT hk hk2 ht w
  subst hK hI hT
  have hL := lenC_le hk t
  unfold usedI
  obtain ⟨L, eL⟩ : ∃ L, lenC k t = L := ⟨_, rfl⟩
  rw [eL] at K1 hL ⊢
  obtain ⟨p, ep⟩ : ∃ p, i * L = p := ⟨_, rfl⟩
  have hp : p ≤ 255 * 65536 := by rw [← ep]; exact Nat.mul_le_mul hi (by omega)
  have hp2 : (i : Int) * (L : Int) = (p : Int) := by rw [← ep]; simp
  rw [ep]
  clear eL ep hk
  by_cases hik : k ≤ i
  · rw [if_pos hik]
    go_enter Tryd.func78, Tryd.ntmps78
    go_wp2_with (first | (go_at_call 76; refine K1.mono ?_; rintro r w' ⟨rfl, hw'⟩; obtain rfl := hw'.symm))
    go_ret
    exact ⟨rfl, rfl⟩
  · rw [if_neg hik]
    have W1 : wrap64 (p : Int) = (p : Int) := in64 _ (by omega)
    have W2 : wrap64 ((t : Int) - (p : Int)) = (t : Int) - (p : Int) := in64 _ (by omega)
    rcases Int.lt_or_le ((t : Int) - (p : Int)) (L : Int) with c1 | c1
    · rcases Int.lt_or_le 0 ((t : Int) - (p : Int)) with c2 | c2
      · have HG : Hid (max 0 (min (L : Int) ((t : Int) - (p : Int))) = (t : Int) - (p : Int)) := by show _ = _; omega
        go_enter Tryd.func78, Tryd.ntmps78
        go_wp2_with (first | (go_at_call 76; refine K1.mono ?_; rintro r w' ⟨rfl, hw'⟩; obtain rfl := hw'.symm))
        all_goals go_ret
        all_goals exact ⟨ret_i64 (by rw [HG.out]), rfl⟩
      · have HG : Hid (max 0 (min (L : Int) ((t : Int) - (p : Int))) = 0) := by show _ = _; omega
        go_enter Tryd.func78, Tryd.ntmps78
        go_wp2_with (first | (go_at_call 76; refine K1.mono ?_; rintro r w' ⟨rfl, hw'⟩; obtain rfl := hw'.symm))
        all_goals go_ret
        all_goals exact ⟨ret_i64 (by rw [HG.out]), rfl⟩
    · rcases Nat.eq_zero_or_pos L with c2 | c2
      · have HG : Hid (max 0 (min (L : Int) ((t : Int) - (p : Int))) = 0) := by show _ = _; omega
        subst c2
        go_enter Tryd.func78, Tryd.ntmps78
        go_wp2_with (first | (go_at_call 76; refine K1.mono ?_; rintro r w' ⟨rfl, hw'⟩; obtain rfl := hw'.symm))
        all_goals go_ret
        all_goals exact ⟨ret_i64 (by rw [HG.out]; try rfl), rfl⟩
      · have HG : Hid (max 0 (min (L : Int) ((t : Int) - (p : Int))) = L) := by show _ = _; omega
        go_enter Tryd.func78, Tryd.ntmps78
        go_wp2_with (first | (go_at_call 76; refine K1.mono ?_; rintro r w' ⟨rfl, hw'⟩; obtain rfl := hw'.symm))
        all_goals go_ret
        all_goals exact ⟨ret_i64 (by rw [HG.out]), rfl⟩

/-- A shard as it is handed in. -/
def shV (s : Sh) (vN vS vC : Value) : Value := .agg #[.int .i64 s.K, .int .i64 s.N, .int .i64 s.I, .int .i64 s.C, vN, vS, vC]
structure Sh.In (s : Sh) (w : World) (vN vS vC : Value) : Prop where
  names : Lies w vN (nameV s.ns)
  sizes : Lies w vS (intV s.zs)
  col : Lies w vC (u8V s.col)
  nl : s.ns.length ≤ 9223372036854775807
  zl : s.zs.length ≤ 9223372036854775807
  cl : s.col.length ≤ 9223372036854775807
  ml : ∀ n ∈ s.ns, n.length ≤ 9223372036854775807
theorem Sh.In.below {s : Sh} {w w' : World} {vN vS vC : Value} (h : s.In w vN vS vC) (hb : Below w.heap.size w w') : s.In w' vN vS vC :=
  ⟨h.names.below hb, h.sizes.below hb, h.col.below hb, h.nl, h.zl, h.cl, h.ml⟩
theorem Sh.fine_iff (s : Sh) : s.Fine ↔ ParamsOk s.K s.N s.C ∧ 0 ≤ s.I ∧ s.I < s.N :=
  ⟨fun h => ⟨⟨⟨h.k1, h.kn, h.n1⟩, h.c1, h.c2⟩, h.i0, h.iN⟩, fun h => ⟨h.1.1.1, h.1.1.2.1, h.1.1.2.2, h.2.1, h.2.2, h.1.2.1, h.1.2.2⟩⟩
theorem Sh.listed_iff (s : Sh) : s.Listed ↔ ListOk s.ns s.zs := ⟨fun h => ⟨h.len, h.names, h.sizes⟩, fun h => ⟨h.1, h.2.1, h.2.2⟩⟩
theorem Sh.few_iff (s : Sh) : s.Few ↔ FewOk s.ns s.zs := ⟨fun h => ⟨h.blobs, h.bytes, h.man⟩, fun h => ⟨h.1, h.2.1, h.2.2⟩⟩

/-- A box of seven cells behind a call that leaves what lay. -/
theorem box7 {w w1 : World} {a b c d e f g : Value} {t : TypeId} (hB : Below (w.alloc (.cells #[a, b, c, d, e, f, g] t)).heap.size (w.alloc (.cells #[a, b, c, d, e, f, g] t)) w1) :
    (w1.cell? ⟨w.heap.size, 0, none⟩ = some a ∧ w1.cell? ⟨w.heap.size, 1, none⟩ = some b ∧ w1.cell? ⟨w.heap.size, 2, none⟩ = some c ∧ w1.cell? ⟨w.heap.size, 3, none⟩ = some d ∧ w1.cell? ⟨w.heap.size, 4, none⟩ = some e ∧ w1.cell? ⟨w.heap.size, 5, none⟩ = some f ∧ w1.cell? ⟨w.heap.size, 6, none⟩ = some g) ∧ Below w.heap.size w w1 := by
  have h0 : RowAt (w.alloc (.cells #[a, b, c, d, e, f, g] t)) w.heap.size [a, b, c, d, e, f, g] t := RowAt.made w [a, b, c, d, e, f, g] t
  have h1 : RowAt w1 w.heap.size [a, b, c, d, e, f, g] t := h0.later (S := fun _ => False) (.of_below hB) (by simp) id
  refine ⟨⟨h1.cell rfl, h1.cell rfl, h1.cell rfl, h1.cell rfl, h1.cell rfl, h1.cell rfl, h1.cell rfl⟩, ?_⟩
  exact ((Below.refl w.heap.size w).alloc (Nat.le_refl _) _).trans (hB.mono (by simp))

set_option maxHeartbeats 4000000 in
set_option maxRecDepth 100000 in
theorem check_params (s : Sh) (vN vS vC : Value) (w : World) (hF : ¬ s.Fine) :
    Calls Tryd.prog 46 #[shV s vN vS vC] w fun r w' => r = .returned (.int .i64 1) ∧ Below w.heap.size w w' := by
  unfold shV
  rw [Sh.fine_iff] at hF
  obtain ⟨K, N, I, C, ns, zs, col⟩ := s
  simp only at hF ⊢
  by_cases h1 : ParamsOk K N C
  · have H1 : Hid (ParamsOk K N C) := h1
    by_cases h2 : 0 ≤ I
    · have h3 : N ≤ I := by
        rcases Int.lt_or_le I N with x | x
        · exact absurd ⟨h1, h2, x⟩ hF
        · exact x
      clear h1 hF
      go_enter Tryd.func46, Tryd.ntmps46
      go_wp2_with (first | (go_at_call 30; refine (paramsFit_any _ _ _ _).mono ?_; rintro r w1 ⟨hB, hb⟩; obtain rfl := hb.yes H1.out; obtain ⟨⟨c0, c1, c2, c3, c4, c5, c6⟩, hB1⟩ := box7 hB; clear hB hb))
      go_ret
      exact ⟨rfl, hB1⟩
    · clear h1 hF
      go_enter Tryd.func46, Tryd.ntmps46
      go_wp2_with (first | (go_at_call 30; refine (paramsFit_any _ _ _ _).mono ?_; rintro r w1 ⟨hB, hb⟩; obtain rfl := hb.yes H1.out; obtain ⟨⟨c0, c1, c2, c3, c4, c5, c6⟩, hB1⟩ := box7 hB; clear hB hb))
      go_ret
      exact ⟨rfl, hB1⟩
  · have H1 : Hid (¬ ParamsOk K N C) := h1
    clear h1 hF
    go_enter Tryd.func46, Tryd.ntmps46
    go_wp2_with (first | (go_at_call 30; refine (paramsFit_any _ _ _ _).mono ?_; rintro r w1 ⟨hB, hb⟩; obtain rfl := hb.no H1.out; obtain ⟨⟨c0, c1, c2, c3, c4, c5, c6⟩, hB1⟩ := box7 hB; clear hB hb))
    go_ret
    exact ⟨rfl, hB1⟩
end Go.Proofs.YtkpcmfgeanlcnaaDoor

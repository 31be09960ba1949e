/-
  How the program reads a shard: the head's numbers (readNumbers).
-/
import Derived.Test.YtlghjjennhpjeaaGreatDoorPrN
import Derived.Test.YtlghjjennhpjeaaGreatDoorPlA
import Derived.Deep.CutRange
import Derived.Deep.RegionHeld3
import Derived.Test.YtlghjjennhpjeaaGreatDoorEnC
import Derived.Test.YtlghjjennhpjeaaGreatDoorScanI
namespace Go.Proofs.YtlghjjennhpjeaaGreatDoor
open Go.RowKit Go.Deep

theorem le_part' {t : List UInt8} {n : Nat} : ∀ (m j : Nat) (i : Nat), i + m ≤ n → le (part t j n) i m = le t (j + i) m
  | 0, _, _, _ => rfl
  | m + 1, j, i, h => by
    show bAt (part t j n) i + 256 * le (part t j n) (i + 1) m = bAt t (j + i) + 256 * le t (j + i + 1) m
    rw [part_at (by omega), le_part' m j (i + 1) (by omega), Nat.add_assoc]
set_option maxHeartbeats 1000000 in
set_option maxRecDepth 100000 in
theorem numB_any (bx b off ct : Nat) (u : List UInt8) (hu : u.length = 24) (hct : 24 ≤ ct) (A N : Int) (a n : Nat) (hA : A = a) (hN : N = n) (hn : n ≤ 4) (ha : a + n ≤ 24) (ha2 : a < 24) (w : World) (h : w.cell? ⟨bx, 0, none⟩ = some (.slice (some ⟨b, off, none⟩) 24 ct)) (hB : Byt w b off u) :
    Calls Tryz.prog 140 #[.int .i64 A, .int .i64 N, .pointer (some ⟨bx, 0, none⟩)] w fun q w' => q = .returned (.int .i64 (le u a n : Nat)) ∧ w' = w := by
  subst hA hN
  have hP : (part u a n).length = n := part_length (by omega)
  have K := fun cap => readNumber_any b (off + a) n cap (part u a n) hP (by omega) w (hB.part (by omega))
  have hle : le (part u a n) 0 n = le u a n := le_part' n a 0 (by omega)
  have hlt : le u a n < 2 ^ 32 := Nat.lt_of_lt_of_le (le_lt u n a) (by rw [show (2 : Nat) ^ 32 = 256 ^ 4 from rfl]; exact Nat.pow_le_pow_right (by omega) hn)
  rw [hle] at K
  obtain ⟨y, ey⟩ : ∃ y, le u a n = y := ⟨_, rfl⟩
  rw [ey] at K hlt ⊢
  have sl := slice_part b off 24 ct (a : Int) ((a : Int) + (n : Int)) a (a + n) rfl (by simp) (by omega) (by omega) (by omega)
  rw [show a + n - a = n by omega] at sl
  clear ey hle hP hB hu
  go_enter Tryz.func140, Tryz.ntmps140
  go_wp2_with (first | (go_at_call 139; refine (K _).mono ?_; rintro q w' ⟨rfl, hw'⟩; obtain rfl := hw'.symm))
  go_ret
  exact ⟨rfl, rfl⟩
/-- What the numbers of a head leave. -/
def Rd.nums (r : Rd) (u : List UInt8) : Rd := { r with k := le u 6 1, n := le u 7 1, i := le u 8 1, c := le u 10 4, m := le u 14 4, ln := le u 18 4 }
def NumsPost (w : World) (rb : Nat) (r : Rd) (u : List UInt8) (q : Ending) (w' : World) : Prop :=
  But w.heap.size (· = rb) w w' ∧ RdAt w' rb (r.nums u) ∧ match numsE (numsP u) with
    | some p => ∃ v, q = .returned v ∧ Chain w' 0 v 1 p
    | none => q = .returned .nilIface

theorem nums_kept {w w3 w' : World} {rb : Nat} {R : Rd} (hA : But w.heap.size (· = rb) w w3) (hR : RdAt w3 rb R) (hb : Below w3.heap.size w3 w') : But w.heap.size (· = rb) w w' ∧ RdAt w' rb R :=
  ⟨hA.trans (.of_below (hb.mono hA.size)), RowAt.later hR (S := fun _ => False) (.of_below hb) (RowAt.lt hR) id⟩
/-- The eight numbers, as they lie in memory. -/
def numsP8 (u : List UInt8) : List Value := [.int .i64 6, .int .i64 (le u 6 1 : Nat), .int .i64 1, .int .i64 128, .int .i64 7, .int .i64 (le u 7 1 : Nat), .int .i64 (le u 6 1 : Nat), .int .i64 128, .int .i64 8, .int .i64 (le u 8 1 : Nat), .int .i64 0, .int .i64 ((le u 7 1 : Nat) - 1), .int .i64 9, .int .i64 (le u 9 1 : Nat), .int .i64 0, .int .i64 0, .int .i64 10, .int .i64 (le u 10 4 : Nat), .int .i64 1, .int .i64 65536, .int .i64 14, .int .i64 (le u 14 4 : Nat), .int .i64 4, .int .i64 300000, .int .i64 18, .int .i64 (le u 18 4 : Nat), .int .i64 0, .int .i64 65536, .int .i64 22, .int .i64 (le u 22 2 : Nat), .int .i64 0, .int .i64 0]
section
variable (rb : Nat) (r : Rd) (u : List UInt8) (b off ct : Nat) (hu : u.length = 24) (hct : 24 ≤ ct) (hbr : b ≠ rb) (w : World) (h : RdAt w rb r) (hB : Byt w b off u)
set_option maxHeartbeats 8000000 in
set_option maxRecDepth 100000 in
include hu hct hbr h hB in
theorem readNumbers_any :
    Calls Tryz.prog 132 #[.pointer (some ⟨rb, 0, none⟩), .slice (some ⟨b, off, none⟩) 24 ct] w fun q w' => NumsPost w rb r u q w' := by
  have hrb := RowAt.lt h
  have hbb : b < w.heap.size := cell_lt (hB 0 (by omega))
  have hA := (But.refl w.heap.size (· = rb) w).alloc (Nat.le_refl _) (.cells #[Value.slice (some ⟨b, off, none⟩) 24 ct] 24)
  have hx0 : RowAt (w.alloc (.cells #[Value.slice (some ⟨b, off, none⟩) 24 ct] 24)) w.heap.size [.slice (some ⟨b, off, none⟩) 24 ct] 24 := RowAt.made w _ _
  have hR0 : RdAt (w.alloc (.cells #[Value.slice (some ⟨b, off, none⟩) 24 ct] 24)) rb r := by
    unfold RdAt RowAt at *
    rw [Below.heap_alloc w _ rb hrb]; exact h
  have hB0 := hB.later hA hbb hbr
  have hN : ∀ a n, n ≤ 4 → le u a n < 2 ^ 32 := fun a n hn => Nat.lt_of_lt_of_le (le_lt u n a) (by rw [show (2 : Nat) ^ 32 = 256 ^ 4 from rfl]; exact Nat.pow_le_pow_right (by omega) hn)
  go_enter Tryz.func132, Tryz.ntmps132
  go_upto_region 3 with (fail)
  obtain ⟨bx, ebx⟩ : ∃ bx, w.heap.size = bx := ⟨_, rfl⟩
  have hxr : bx ≠ rb := by omega
  have hxb : bx ≠ b := by omega
  rw [ebx] at hx0 ⊢
  have EB : Hid (w.heap.size = bx) := ebx
  clear ebx h hB
  generalize w.alloc (.cells #[Value.slice (some ⟨b, off, none⟩) 24 ct] 24) = w0 at hA hx0 hR0 hB0 ⊢
  have f0 := RowAt.frozen hR0
  have c0 := RowAt.cell hR0 (i := 0) rfl
  have c1 := RowAt.cell hR0 (i := 1) rfl
  have c2 := RowAt.cell hR0 (i := 2) rfl
  have c3 := RowAt.cell hR0 (i := 3) rfl
  go_upto_region 4 with (first | (go_at_call 140; refine (numB_any _ b off ct u hu hct _ _ 6 1 (by rfl) (by rfl) (by omega) (by omega) (by omega) _ (by exact hx0.cell rfl) (by exact hB0)).mono ?_; rintro q w' ⟨rfl, hw'⟩; obtain rfl := hw'.symm) | (go_at_call 140; refine (numB_any _ b off ct u hu hct _ _ 7 1 (by rfl) (by rfl) (by omega) (by omega) (by omega) _ (by exact hx0.cell rfl) (by exact hB0)).mono ?_; rintro q w' ⟨rfl, hw'⟩; obtain rfl := hw'.symm) | (go_at_call 140; refine (numB_any _ b off ct u hu hct _ _ 8 1 (by rfl) (by rfl) (by omega) (by omega) (by omega) _ (by exact hx0.cell rfl) (by exact hB0)).mono ?_; rintro q w' ⟨rfl, hw'⟩; obtain rfl := hw'.symm) | (go_at_call 140; refine (numB_any _ b off ct u hu hct _ _ 10 4 (by rfl) (by rfl) (by omega) (by omega) (by omega) _ (by exact hx0.cell rfl) (by exact hB0)).mono ?_; rintro q w' ⟨rfl, hw'⟩; obtain rfl := hw'.symm))
  have hR1 : RdAt _ rb { r with k := le u 6 1, n := le u 7 1, i := le u 8 1, c := le u 10 4 } := (((RowAt.set hR0 0 (.int .i64 (le u 6 1 : Nat))).set 1 (.int .i64 (le u 7 1 : Nat))).set 2 (.int .i64 (le u 8 1 : Nat))).set 3 (.int .i64 (le u 10 4 : Nat))
  have hA1 : But w.heap.size (· = rb) w _ := (((hA.setCell (p := ⟨rb, 0, none⟩) (.inr rfl) (.int .i64 (le u 6 1 : Nat))).setCell (p := ⟨rb, 1, none⟩) (.inr rfl) (.int .i64 (le u 7 1 : Nat))).setCell (p := ⟨rb, 2, none⟩) (.inr rfl) (.int .i64 (le u 8 1 : Nat))).setCell (p := ⟨rb, 3, none⟩) (.inr rfl) (.int .i64 (le u 10 4 : Nat))
  have hAA : But w0.heap.size (· = rb) w0 _ := ((((But.refl w0.heap.size (· = rb) w0).setCell (p := ⟨rb, 0, none⟩) (.inr rfl) (.int .i64 (le u 6 1 : Nat))).setCell (p := ⟨rb, 1, none⟩) (.inr rfl) (.int .i64 (le u 7 1 : Nat))).setCell (p := ⟨rb, 2, none⟩) (.inr rfl) (.int .i64 (le u 8 1 : Nat))).setCell (p := ⟨rb, 3, none⟩) (.inr rfl) (.int .i64 (le u 10 4 : Nat))
  have hx1 := hx0.later hAA hx0.lt hxr
  have hB1 := hB0.later hAA (cell_lt (hB0 0 (by omega))) hbr
  clear hAA hA hx0 hB0 hR0 f0 c0 c1 c2 c3
  generalize (((w0.setCell ⟨rb, 0, none⟩ (.int .i64 (le u 6 1 : Nat))).setCell ⟨rb, 1, none⟩ (.int .i64 (le u 7 1 : Nat))).setCell ⟨rb, 2, none⟩ (.int .i64 (le u 8 1 : Nat))).setCell ⟨rb, 3, none⟩ (.int .i64 (le u 10 4 : Nat)) = w1 at hA1 hx1 hR1 hB1 ⊢
  have f0 := RowAt.frozen hR1
  have c7 := RowAt.cell hR1 (i := 7) rfl
  have c8 := RowAt.cell hR1 (i := 8) rfl
  go_upto_region 5 with (first | (go_at_call 140; refine (numB_any _ b off ct u hu hct _ _ 14 4 (by rfl) (by rfl) (by omega) (by omega) (by omega) _ (by exact hx1.cell rfl) (by exact hB1)).mono ?_; rintro q w' ⟨rfl, hw'⟩; obtain rfl := hw'.symm) | (go_at_call 140; refine (numB_any _ b off ct u hu hct _ _ 18 4 (by rfl) (by rfl) (by omega) (by omega) (by omega) _ (by exact hx1.cell rfl) (by exact hB1)).mono ?_; rintro q w' ⟨rfl, hw'⟩; obtain rfl := hw'.symm))
  have hR2 : RdAt _ rb (r.nums u) := ((RowAt.set hR1 7 (.int .i64 (le u 14 4 : Nat))).set 8 (.int .i64 (le u 18 4 : Nat)))
  have hA2 : But w.heap.size (· = rb) w _ := (hA1.setCell (p := ⟨rb, 7, none⟩) (.inr rfl) (.int .i64 (le u 14 4 : Nat))).setCell (p := ⟨rb, 8, none⟩) (.inr rfl) (.int .i64 (le u 18 4 : Nat))
  have hAA : But w1.heap.size (· = rb) w1 _ := ((But.refl w1.heap.size (· = rb) w1).setCell (p := ⟨rb, 7, none⟩) (.inr rfl) (.int .i64 (le u 14 4 : Nat))).setCell (p := ⟨rb, 8, none⟩) (.inr rfl) (.int .i64 (le u 18 4 : Nat))
  have hx2 := hx1.later hAA hx1.lt hxr
  have hB2 := hB1.later hAA (cell_lt (hB1 0 (by omega))) hbr
  clear hAA hA1 hx1 hB1 hR1 f0 c7 c8
  generalize (w1.setCell ⟨rb, 7, none⟩ (.int .i64 (le u 14 4 : Nat))).setCell ⟨rb, 8, none⟩ (.int .i64 (le u 18 4 : Nat)) = w2 at hA2 hx2 hR2 hB2 ⊢
  have c0 := RowAt.cell hR2 (i := 0) rfl
  have c1 := RowAt.cell hR2 (i := 1) rfl
  have c2 := RowAt.cell hR2 (i := 2) rfl
  have c3 := RowAt.cell hR2 (i := 3) rfl
  have c7 := RowAt.cell hR2 (i := 7) rfl
  have c8 := RowAt.cell hR2 (i := 8) rfl
  simp only [Rd.nums] at c0 c1 c2 c3 c7 c8
  have K9 := numB_any _ b off ct u hu hct 9 1 9 1 rfl rfl (by omega) (by omega) (by omega) w2.drew (show w2.drew.cell? _ = _ from hx2.cell rfl) (show Byt w2.drew b off u from hB2)
  have K22 := numB_any _ b off ct u hu hct 22 2 22 2 rfl rfl (by omega) (by omega) (by omega) w2.drew (show w2.drew.cell? _ = _ from hx2.cell rfl) (show Byt w2.drew b off u from hB2)
  have h7 := hN 7 1 (by omega)
  have HM : Hid _ := hN
  clear hN
  go_region_held3 (fun w' => w'.cell? ⟨rb, 0, none⟩ = some (.int .i64 (le u 6 1 : Nat)) ∧ w'.cell? ⟨rb, 1, none⟩ = some (.int .i64 (le u 7 1 : Nat)) ∧ w'.cell? ⟨rb, 2, none⟩ = some (.int .i64 (le u 8 1 : Nat)) ∧ w'.cell? ⟨rb, 3, none⟩ = some (.int .i64 (le u 10 4 : Nat)) ∧ w'.cell? ⟨rb, 7, none⟩ = some (.int .i64 (le u 14 4 : Nat)) ∧ w'.cell? ⟨rb, 8, none⟩ = some (.int .i64 (le u 18 4 : Nat))) (go_keep)
    (first | (go_at_call 140; with_reducible refine K9.mono ?_; rintro e w' ⟨rfl, hw'⟩; obtain rfl := hw'.symm) | (go_at_call 140; with_reducible refine K22.mono ?_; rintro e w' ⟨rfl, hw'⟩; obtain rfl := hw'.symm))
  have hwr : IntKind.i64.wrap ((le u 7 1 : Nat) - 1 : Int) = (le u 7 1 : Nat) - 1 := IntWalk.i64_in _ (by omega)
  rw [hwr]
  clear hwr K9 K22 c0 c1 c2 c3 c7 c8
  have hA3 : But w.heap.size (· = rb) w _ := (hA2.alloc (by have := hA2.size; omega) (.cells (numsP8 u).toArray 211)).drew
  have hR3 : RdAt ((w2.alloc (.cells (numsP8 u).toArray 211)).drew) rb (r.nums u) := by
    have := RowAt.later hR2 (S := fun _ => False) ((But.refl w2.heap.size _ w2).alloc (Nat.le_refl _) (.cells (numsP8 u).toArray 211)) (RowAt.lt hR2) id
    exact this
  have hV3 : RowAt ((w2.alloc (.cells (numsP8 u).toArray 211)).drew) w2.heap.size (numsP8 u) 211 := RowAt.made w2 _ _
  unfold numsP8 at hA3 hR3 hV3
  obtain ⟨g, eg⟩ : ∃ g, w2.heap.size = g := ⟨_, rfl⟩
  rw [eg] at hV3 ⊢
  generalize (w2.alloc _).drew = w3 at hA3 hR3 hV3 ⊢
  clear hA2 hR2 hx2 hB2 eg
  have hrow : ∀ c, c < 8 → ∃ (p v : Nat) (lo hi : Int), (numsP u).drop c = (p, v, lo, hi) :: (numsP u).drop (c + 1) ∧ w3.cell? ⟨g, c * 4, none⟩ = some (.int .i64 (p : Int)) ∧ w3.cell? ⟨g, c * 4 + 1, none⟩ = some (.int .i64 (v : Int)) ∧ w3.cell? ⟨g, c * 4 + 2, none⟩ = some (.int .i64 lo) ∧ w3.cell? ⟨g, c * 4 + 3, none⟩ = some (.int .i64 hi) := by
    intro c hc
    match c, hc with
    | 0, _ => exact ⟨6, _, _, _, rfl, hV3.cell rfl, hV3.cell rfl, hV3.cell rfl, hV3.cell rfl⟩
    | 1, _ => exact ⟨7, _, _, _, rfl, hV3.cell rfl, hV3.cell rfl, hV3.cell rfl, hV3.cell rfl⟩
    | 2, _ => exact ⟨8, _, _, _, rfl, hV3.cell rfl, hV3.cell rfl, hV3.cell rfl, hV3.cell rfl⟩
    | 3, _ => exact ⟨9, _, _, _, rfl, hV3.cell rfl, hV3.cell rfl, hV3.cell rfl, hV3.cell rfl⟩
    | 4, _ => exact ⟨10, _, _, _, rfl, hV3.cell rfl, hV3.cell rfl, hV3.cell rfl, hV3.cell rfl⟩
    | 5, _ => exact ⟨14, _, _, _, rfl, hV3.cell rfl, hV3.cell rfl, hV3.cell rfl, hV3.cell rfl⟩
    | 6, _ => exact ⟨18, _, _, _, rfl, hV3.cell rfl, hV3.cell rfl, hV3.cell rfl, hV3.cell rfl⟩
    | 7, _ => exact ⟨22, _, _, _, rfl, hV3.cell rfl, hV3.cell rfl, hV3.cell rfl, hV3.cell rfl⟩
  have hg3 : g < w3.heap.size := hV3.lt
  clear hV3 h7 HM hu hct hbr
  go_wp2
  go_loopw [90] (fun vi wr => ∃ c : Nat, c ≤ 8 ∧ vi = .int .i64 (c : Int) ∧ Below w3.heap.size w3 wr ∧ Hid (numsE (numsP u) = numsE ((numsP u).drop c))) (fun i _ => 8 - (intOf i).toNat)
  case atStart => exact ⟨0, by omega, rfl, Below.refl _ _, rfl⟩
  case round =>
    obtain ⟨c, hc, rfl, hb, H⟩ := hrel
    by_cases hlt : c < 8
    · obtain ⟨p, v, lo, hi, e1, d0, d1, d2, d3⟩ := hrow c hlt
      have H2 : Hid (numsE (numsP u) = if (v : Int) < lo ∨ hi < (v : Int) then some p else numsE ((numsP u).drop (c + 1))) := by
        show _ = _
        rw [H.out, e1]; rfl
      rw [← hb.cell (p := ⟨g, c * 4, none⟩) hg3] at d0
      rw [← hb.cell (p := ⟨g, c * 4 + 1, none⟩) hg3] at d1
      rw [← hb.cell (p := ⟨g, c * 4 + 2, none⟩) hg3] at d2
      rw [← hb.cell (p := ⟨g, c * 4 + 3, none⟩) hg3] at d3
      clear hrow e1 H
      by_cases q1 : (v : Int) < lo
      · have HB : Hid (numsE (numsP u) = some p) := by show _ = _; rw [H2.out, if_pos (.inl q1)]
        go_wp2_with (first | (go_at_call 49; refine (at_any _ _ 1 p (by rfl) (by rfl) _).mono ?_; rintro q w5 ⟨v5, rfl, g1, g2⟩))
        go_ret
        have hb5 : Below w3.heap.size w3 w5 := (hb.alloc hb.size _).trans (g2.mono (by simp; have := hb.size; omega))
        obtain ⟨z1, z2⟩ := nums_kept hA3 hR3 hb5
        refine ⟨z1, z2, ?_⟩
        rw [HB.out]
        exact ⟨_, rfl, g1⟩
      · by_cases q2 : hi < (v : Int)
        · have HB : Hid (numsE (numsP u) = some p) := by show _ = _; rw [H2.out, if_pos (.inr q2)]
          go_wp2_with (first | (go_at_call 49; refine (at_any _ _ 1 p (by rfl) (by rfl) _).mono ?_; rintro q w5 ⟨v5, rfl, g1, g2⟩))
          go_ret
          have hb5 : Below w3.heap.size w3 w5 := (hb.alloc hb.size _).trans (g2.mono (by simp; have := hb.size; omega))
          obtain ⟨z1, z2⟩ := nums_kept hA3 hR3 hb5
          refine ⟨z1, z2, ?_⟩
          rw [HB.out]
          exact ⟨_, rfl, g1⟩
        · have HB : Hid (numsE (numsP u) = numsE ((numsP u).drop (c + 1))) := by
            show _ = _
            rw [H2.out, if_neg (by omega)]
          clear H2
          go_wp2
          go_roundw
          case rel => exact ⟨c + 1, by omega, by go_num, by first | exact hb.alloc hb.size _ | exact (hb.alloc hb.size _).setCell (by simp; have := hb.size; omega) _, HB⟩
          case measure => simp [intOf]; omega
    · obtain rfl : c = 8 := by omega
      have HB : Hid (numsE (numsP u) = none) := H
      clear hrow
      go_wp2
      go_ret
      obtain ⟨z1, z2⟩ := nums_kept hA3 hR3 hb
      refine ⟨z1, z2, ?_⟩
      rw [HB.out]
      exact rfl
end
end Go.Proofs.YtlghjjennhpjeaaGreatDoor

/-
  How the program reads a shard: the head and the tail (readHead, readTail).
  How the program reads a shard: a frame (readFrame).
-/
namespace Go.Proofs.YtlghjjennhpjeaaGreatDoor
open Go.RowKit Go.Deep

/-- What the reading of a piece leaves. -/
def ReadOut (B : Nat) (w : World) (rb : Nat) (s : St) (t : List UInt8) (vN vS vC vT : Value) (R : Except (Nat × Nat) St) (D : Nat) (q : Ending) (w' : World) : Prop :=
  But w.heap.size (Mine rb vC vT) w w' ∧ match R with
  | .error e => (∃ v d, d ≤ D ∧ q = .returned v ∧ Chain w' d v e.1 e.2) ∧ (∃ r', RdAt w' rb r') ∧ (e.1 = 4 → RI B w' rb s t vN vS vC vT)
  | .ok s' => q = .returned .nilIface ∧ ∃ vN' vS' vC', RI B w' rb s' t vN' vS' vC' vT ∧ (vC'.ownBlock = vC.ownBlock ∨ ∃ g, vC'.ownBlock = some g ∧ w.heap.size ≤ g)
theorem RI.below {B rb : Nat} {w w' : World} {s : St} {t : List UInt8} {vN vS vC vT : Value} (I : RI B w rb s t vN vS vC vT) (hb : Below w.heap.size w w') : RI B w' rb s t vN vS vC vT := by
  have key : ∀ {e n : Nat} {v : Value} {xs : List Value}, w.ownsRow B e 1 v n xs → w'.ownsRow B e 1 v n xs := fun h => owns_later h (fun g hg' => hb.block g (h.lt g hg').2)
  exact ⟨RowAt.later I.rd (S := fun _ => False) (.of_below hb) (RowAt.lt I.rd) id, key I.on, key I.os, key I.oc, key I.ot, I.ap, Nat.le_trans I.size hb.size⟩
/-- A fault, and nothing turned. -/
theorem ReadOut.fault {B : Nat} {w w' : World} {rb : Nat} {s : St} {t : List UInt8} {vN vS vC vT v : Value} {e : Nat × Nat} {d D : Nat} (I : RI B w rb s t vN vS vC vT) (hd : d ≤ D) (h : Chain w' d v e.1 e.2) (hb : Below w.heap.size w w') : ReadOut B w rb s t vN vS vC vT (.error e) D (.returned v) w' :=
  ⟨.of_below hb, ⟨v, d, hd, rfl, h⟩, ⟨_, (I.below hb).rd⟩, fun _ => I.below hb⟩
theorem Faulty.read {B : Nat} {w w' : World} {rb : Nat} {s : St} {t : List UInt8} {vN vS vC vT : Value} {q : Ending} {d x y D : Nat} (h : Faulty w d x y q w') (I : RI B w rb s t vN vS vC vT) (hd : d ≤ D) : ReadOut B w rb s t vN vS vC vT (.error (x, y)) D q w' := by
  obtain ⟨v, rfl, h1, h2⟩ := h
  exact ReadOut.fault I hd h1 h2
theorem below_of_drewN {w w' : World} {j : Nat} (h : Below (w.drewN j).heap.size (w.drewN j) w') : Below w.heap.size w w' := ⟨h.os, h.tape, h.output, h.size, h.block⟩

/-- The Reading's own cells are turned, and nothing else. -/
theorem RI.turn {B rb : Nat} {w w' : World} {s s' : St} {t : List UInt8} {vN vS vC vT : Value} (I : RI B w rb s t vN vS vC vT) (hB : But w.heap.size (· = rb) w w') (hR : RdAt w' rb (s'.rd vN vS vC vT .nilIface)) (h1 : s'.ns = s.ns) (h2 : s'.zs = s.zs) (h3 : s'.col = s.col) : RI B w' rb s' t vN vS vC vT := by
  have key : ∀ {e n : Nat} {v : Value} {xs : List Value}, w.ownsRow B e 1 v n xs → e ≠ 102 → w'.ownsRow B e 1 v n xs := fun h he => owns_later h (fun g hg' => hB.block g (h.lt g hg').2 (fun e => owns_rd h I.rd he (by rw [hg', e])))
  exact ⟨hR, by rw [h1]; exact key I.on (by decide), by rw [h2]; exact key I.os (by decide), by rw [h3]; exact key I.oc (by decide), key I.ot (by decide), I.ap, Nat.le_trans I.size hB.size⟩
theorem numsP_part {t : List UInt8} : numsP (part t 0 24) = numsP t := by
  have h : ∀ a n, a + n ≤ 24 → le (part t 0 24) a n = le t a n := fun a n hn => by rw [le_part' n 0 a hn, Nat.zero_add]
  unfold numsP
  rw [h 6 1 (by omega), h 7 1 (by omega), h 8 1 (by omega), h 9 1 (by omega), h 10 4 (by omega), h 14 4 (by omega), h 18 4 (by omega), h 22 2 (by omega)]
section
variable (B rb : Nat) (s : St) (t : List UInt8) (vN vS vC vT : Value) (hb : Bd s) (ht : t.length ≤ s.sz) (w : World) (I : RI B w rb s t vN vS vC vT) (hTab : Tab w)
set_option maxHeartbeats 4000000 in
set_option maxRecDepth 100000 in
include hb ht I in
theorem readTail_any (hnx : s.nx = 3) : Calls Tryz.prog 122 #[.pointer (some ⟨rb, 0, none⟩)] w fun q w' => ReadOut B w rb s t vN vS vC vT (tailP s t) 0 q w' := by
  obtain ⟨bc, cc, eC, hcc⟩ := I.oc.slice
  obtain ⟨bt, ct, eT, hct⟩ := I.ot.slice
  have hz := St.sz_le hb
  have KB : Calls Tryz.prog 130 #[.pointer (some ⟨rb, 0, none⟩), .string ⟨#[68, 79, 78, 69]⟩] w fun q w' => Begins w t magic2 s.pl q w' :=
    begins_any rb (s.rd vN vS vC vT .nilIface) t magic2 (by decide) (by omega) (by have := hb.pl; exact Nat.le_trans this (by omega)) w I.rd I.ot.lies
  have KY := fun j => whole_yes rb (s.rd vN vS vC vT .nilIface) bc s.col.length cc eC (by have := hb.m; exact Nat.le_trans this (by omega)) (by have := hb.c; exact Nat.le_trans this (by omega)) (by have := hb.ln; exact Nat.le_trans this (by omega)) hb.col (by rw [show (s.rd vN vS vC vT .nilIface).nx = s.nx from rfl]; omega) bt t.length ct eT (w.drewN j) I.rd
  have KN := fun j => whole_no rb (s.rd vN vS vC vT .nilIface) bc s.col.length cc eC (by have := hb.m; exact Nat.le_trans this (by omega)) (by have := hb.c; exact Nat.le_trans this (by omega)) (by have := hb.ln; exact Nat.le_trans this (by omega)) hb.col (by rw [show (s.rd vN vS vC vT .nilIface).nx = s.nx from rfl]; omega) bt t.length ct eT (by omega) (by have := hb.pl; exact Nat.le_trans this (by omega)) (w.drewN j) I.rd
  have hsz : sizeR s.nx s.c s.m s.ln s.col.length = s.sz := rfl
  simp only [St.rd, hsz] at KY KN
  unfold tailP
  cases hbe : begE t magic2 with
  | some i =>
    have HB : Hid (begE t magic2 = some i) := hbe
    clear KY KN hbe
    unfold Begins at KB
    rw [HB.out] at KB
    simp only at KB
    go_enter Tryz.func122, Tryz.ntmps122
    go_wp2_with (first | (go_at_call 130; refine KB.mono ?_; rintro q w2 ⟨v, rfl, g1, g2⟩; obtain ⟨ty, x, rfl⟩ := g1.iface))
    go_ret
    exact ReadOut.fault I (Nat.le_refl _) g1 g2
  | none =>
    unfold Begins at KB
    rw [hbe] at KB
    simp only at KB ⊢
    by_cases q : t.length < s.sz
    · rw [if_pos q]
      have K := fun j => KN j q
      clear KY KN hbe
      go_enter Tryz.func122, Tryz.ntmps122
      go_wp2_with (first | (go_at_call 130; refine KB.mono ?_; rintro q w2 ⟨rfl, j, hw2⟩; obtain rfl := hw2.symm) | (go_at_call 136; refine (K _).mono ?_; rintro q w2 ⟨v, rfl, g1, g2⟩))
      go_ret
      exact ReadOut.fault I (Nat.le_refl _) g1 (below_of_drewN g2)
    · rw [if_neg q]
      have K := fun j => KY j (by omega)
      clear KY KN hbe
      go_enter Tryz.func122, Tryz.ntmps122
      go_wp2_with (first | (go_at_call 130; refine KB.mono ?_; rintro q w2 ⟨rfl, j, hw2⟩; obtain rfl := hw2.symm) | (go_at_call 136; refine (K _).mono ?_; rintro q w2 ⟨rfl, j2, hw2⟩; obtain rfl := hw2.symm))
      go_ret
      refine ⟨((But.refl _ _ _).drewN _), rfl, vN, vS, vC, I.drewN _, .inl rfl⟩
set_option maxHeartbeats 4000000 in
set_option maxRecDepth 100000 in
include hb ht I hTab in
theorem readHead_any (hnx : s.nx = 0) : Calls Tryz.prog 119 #[.pointer (some ⟨rb, 0, none⟩)] w fun q w' => ReadOut B w rb s t vN vS vC vT (headP s t) 0 q w' := by
  obtain ⟨bc, cc, eC, hcc⟩ := I.oc.slice
  obtain ⟨bt, ct, eT, hct⟩ := I.ot.slice
  have hz := St.sz_le hb
  have hz0 := sz0 hnx
  have KB : Calls Tryz.prog 130 #[.pointer (some ⟨rb, 0, none⟩), .string ⟨#[67, 65, 73, 82, 78, 49]⟩] w fun q w' => Begins w t magic1 s.pl q w' :=
    begins_any rb (s.rd vN vS vC vT .nilIface) t magic1 (by decide) (by omega) (by have := hb.pl; exact Nat.le_trans this (by omega)) w I.rd I.ot.lies
  have KS := fun j => rsealed_any rb (s.rd vN vS vC vT .nilIface) bc s.col.length cc eC (by have := hb.m; exact Nat.le_trans this (by omega)) (by have := hb.c; exact Nat.le_trans this (by omega)) (by have := hb.ln; exact Nat.le_trans this (by omega)) hb.col (by rw [show (s.rd vN vS vC vT .nilIface).nx = s.nx from rfl]; omega) t bt ct eT (by omega) (by have := hb.pl; exact Nat.le_trans this (by omega)) (w.drewN j) I.rd I.ot.lies (hTab.heap rfl)
  have hsz : sizeR s.nx s.c s.m s.ln s.col.length = s.sz := rfl
  simp only [St.rd, hsz] at KS
  have hSP : sealT s.sz s.pl t = sealP s t := rfl
  simp only [hSP] at KS
  unfold headP
  cases hbe : begE t magic1 with
  | some i =>
    have HB : Hid (begE t magic1 = some i) := hbe
    clear KS hbe
    unfold Begins at KB
    rw [HB.out] at KB
    simp only at KB
    go_enter Tryz.func119, Tryz.ntmps119
    go_wp2_with (first | (go_at_call 130; refine KB.mono ?_; rintro q w2 ⟨v, rfl, g1, g2⟩; obtain ⟨ty, x, rfl⟩ := g1.iface))
    go_ret
    exact ReadOut.fault I (Nat.le_refl _) g1 g2
  | none =>
    unfold Begins at KB
    rw [hbe] at KB
    simp only at KB ⊢
    cases hse : sealP s t with
    | some e =>
      unfold SealPost at KS
      rw [hse] at KS
      simp only at KS ⊢
      clear hbe hse
      go_enter Tryz.func119, Tryz.ntmps119
      go_wp2_with (first | (go_at_call 130; refine KB.mono ?_; rintro q w2 ⟨rfl, j, hw2⟩; obtain rfl := hw2.symm) | (go_at_call 131; refine (KS _).mono ?_; rintro q w2 ⟨v, rfl, g1, g2⟩; obtain ⟨ty, x, rfl⟩ := g1.iface))
      go_ret
      exact ReadOut.fault I (Nat.le_refl _) g1 (below_of_drewN g2)
    | none =>
      unfold SealPost at KS
      rw [hse] at KS
      simp only at KS ⊢
      have hl32 : t.length = 32 := by
        unfold sealP at hse
        split at hse
        · cases hse
        · omega
      have hby : ∃ b off, bt = some ⟨b, off, none⟩ ∧ Byt w b off t ∧ b ≠ rb := by
        have hot := I.ot
        have hne := owns_rd I.ot I.rd (by decide)
        unfold OwnB at hot
        obtain ⟨g, c, e, _, _, _, _, hB⟩ := owns_byt hot (by omega)
        rw [eT] at e hne
        cases e
        exact ⟨g, 0, rfl, hB, fun e => hne (by rw [e]; rfl)⟩
      obtain ⟨b, off, rfl, hB, hbr⟩ := hby
      have hu : (part t 0 24).length = 24 := part_length (by omega)
      have KR := fun j => readNumbers_any rb (s.rd vN vS vC vT .nilIface) (part t 0 24) b off ct hu (by omega) hbr (w.drewN j) I.rd (by have := hB.part (a := 0) (n := 24) (by omega); exact this)
      unfold NumsPost at KR
      rw [numsP_part] at KR
      have hle : ∀ a n, a + n ≤ 24 → le (part t 0 24) a n = le t a n := fun a n hn => by rw [le_part' n 0 a hn, Nat.zero_add]
      have hrd : (s.rd vN vS vC vT .nilIface).nums (part t 0 24) = ({ s with k := le t 6 1, n := le t 7 1, i := le t 8 1, c := le t 10 4, m := le t 14 4, ln := le t 18 4 } : St).rd vN vS vC vT .nilIface := by
        unfold Rd.nums St.rd
        simp only
        rw [hle 6 1 (by omega), hle 7 1 (by omega), hle 8 1 (by omega), hle 10 4 (by omega), hle 14 4 (by omega), hle 18 4 (by omega)]
      rw [hrd] at KR
      rw [hl32] at KS
      simp only [show 32 - 8 = 24 from rfl] at KS
      have hBM : ∀ {j : Nat} {w' : World}, But (w.drewN j).heap.size (· = rb) (w.drewN j) w' → But w.heap.size (· = rb) w w' := fun h => ((But.refl w.heap.size _ w).drewN _).trans h
      clear hbe hse hle hrd
      cases hnu : numsE (numsP t) with
      | some p =>
        rw [hnu] at KR
        simp only at KR ⊢
        clear hnu
        go_enter Tryz.func119, Tryz.ntmps119
        go_wp2_with (first | (go_at_call 130; refine KB.mono ?_; rintro q w2 ⟨rfl, j, hw2⟩; obtain rfl := hw2.symm) | (go_at_call 131; refine (KS _).mono ?_; rintro q w2 ⟨rfl, j2, hw2⟩; obtain rfl := hw2.symm) | (go_at_call 132; refine (KR _).mono ?_; rintro q w3 ⟨g1, g2, v, rfl, g3⟩))
        go_ret
        exact ⟨(hBM g1).mono (Nat.le_refl _) (fun _ x => .inl x), ⟨v, 0, Nat.le_refl _, rfl, g3⟩, ⟨_, g2⟩, fun h => by cases h⟩
      | none =>
        rw [hnu] at KR
        simp only at KR ⊢
        clear hnu
        go_enter Tryz.func119, Tryz.ntmps119
        go_wp2_with (first | (go_at_call 130; refine KB.mono ?_; rintro q w2 ⟨rfl, j, hw2⟩; obtain rfl := hw2.symm) | (go_at_call 131; refine (KS _).mono ?_; rintro q w2 ⟨rfl, j2, hw2⟩; obtain rfl := hw2.symm) | (go_at_call 132; refine (KR _).mono ?_; rintro q w3 ⟨g1, g2, rfl⟩))
        go_ret
        exact ⟨(hBM g1).mono (Nat.le_refl _) (fun _ x => .inl x), rfl, vN, vS, vC, I.turn (hBM g1) g2 rfl rfl rfl, .inl rfl⟩
end
end Go.Proofs.YtlghjjennhpjeaaGreatDoor

namespace Go.Proofs.YtlghjjennhpjeaaGreatDoor
open Go.RowKit Go.Deep

theorem firstI_pad (u : List UInt8) (F : Int) : firstI u F = match padP u F with | some m => (m : Int) | none => -1 := rfl
theorem usedI_small (k i t : Nat) (hk : 1 ≤ k) (ht : t ≤ 65536) : 0 ≤ usedI k i t ∧ usedI k i t ≤ 65536 := by
  have h1 := lenC_le hk t
  unfold usedI
  split <;> omega
/-- The column grows. -/
theorem RI.column {B rb : Nat} {w w1 : World} {s : St} {t x : List UInt8} {vN vS vC vT v1 : Value} (I : RI B w rb s t vN vS vC vT) (h1 : OwnB B w1 v1 (s.col ++ x)) (hg : w.grownBy w1 vC.ownBlock) (hk : v1.ownBlock = vC.ownBlock ∨ v1.ownBlock = some w.heap.size) :
    RI B (w1.setCell ⟨rb, 6, none⟩ v1) rb { s with col := s.col ++ x } t vN vS v1 vT ∧ But w.heap.size (Mine rb vC vT) w (w1.setCell ⟨rb, 6, none⟩ v1) ∧ w1.cell? ⟨rb, 6, none⟩ = some vC ∧ w1.frozen? ⟨rb, 6, none⟩ = false := by
  have hrlt := RowAt.lt I.rd
  have hT := owns_rd I.oc I.rd (by decide)
  have hR1 : RdAt w1 rb (s.rd vN vS vC vT .nilIface) := by
    unfold RdAt RowAt at *
    rw [hg.block rb hrlt (fun e => hT e.symm)]
    exact I.rd
  have key : ∀ {e n : Nat} {v : Value} {xs : List Value}, w.ownsRow B e 1 v n xs → Apart2 v vC → w1.ownsRow B e 1 v n xs := fun h ha => owns_later h (fun g hg' => hg.block g (h.lt g hg').2 (fun e => ha g hg' e.symm))
  have hN1 := key I.on (owns_apart I.on I.oc (by decide))
  have hS1 := key I.os (owns_apart I.os I.oc (by decide))
  have hT1 := key I.ot (fun g h1 h2 => I.ap g h2 h1)
  have hR2 : RdAt (w1.setCell ⟨rb, 6, none⟩ v1) rb (({ s with col := s.col ++ x } : St).rd vN vS v1 vT .nilIface) := RowAt.set hR1 6 v1
  refine ⟨⟨hR2, owns_set hN1 (owns_rd hN1 hR1 (by decide)), owns_set hS1 (owns_rd hS1 hR1 (by decide)), owns_set h1 (owns_rd h1 hR1 (by decide)), owns_set hT1 (owns_rd hT1 hR1 (by decide)), ?_, ?_⟩, ?_, RowAt.cell hR1 (i := 6) rfl, RowAt.frozen hR1 6⟩
  · intro g hg1 hg2
    rcases hk with e | e
    · exact I.ap g (e ▸ hg1) hg2
    · have h2 := (World.ownsRow.lt I.ot g hg2).2
      rw [e] at hg1
      cases hg1
      omega
  · have := I.size; have := hg.size; simp; omega
  · exact But.setCell (But.mono (But.of_grown hg) (Nat.le_refl _) (fun k hk => .inr (.inl hk))) (p := ⟨rb, 6, none⟩) (.inr (.inl rfl)) v1

section
variable (B rb : Nat) (s : St) (t : List UInt8) (vN vS vC vT : Value) (hb : Bd s) (ht : t.length ≤ s.sz) (w : World) (I : RI B w rb s t vN vS vC vT) (hTab : Tab w)
set_option maxHeartbeats 4000000 in
set_option maxRecDepth 100000 in
include hb ht I hTab in
theorem readFrame_any (hnx : s.nx = 2) (hk1 : 1 ≤ s.k) (hk2 : s.k ≤ 128) (hi : s.i ≤ 128) (htt : s.tt ≤ 65536) : Calls Tryz.prog 121 #[.pointer (some ⟨rb, 0, none⟩)] w fun q w' => ReadOut B w rb s t vN vS vC vT (frameP s t) 0 q w' := by
  obtain ⟨bc, cc, eC, hcc⟩ := I.oc.slice
  obtain ⟨bt, ct, eT, hct⟩ := I.ot.slice
  have hz := St.sz_le hb
  have KS := rsealed_any rb (s.rd vN vS vC vT .nilIface) bc s.col.length cc eC (by have := hb.m; exact Nat.le_trans this (by omega)) (by have := hb.c; exact Nat.le_trans this (by omega)) (by have := hb.ln; exact Nat.le_trans this (by omega)) hb.col (by rw [show (s.rd vN vS vC vT .nilIface).nx = s.nx from rfl]; omega) t bt ct eT (by omega) (by have := hb.pl; exact Nat.le_trans this (by omega)) w I.rd I.ot.lies hTab
  have hsz : sizeR s.nx s.c s.m s.ln s.col.length = s.sz := rfl
  simp only [St.rd, hsz] at KS
  have hSP : sealT s.sz s.pl t = sealP s t := rfl
  simp only [hSP] at KS
  unfold frameP
  cases hse : sealP s t with
  | some e =>
    unfold SealPost at KS
    rw [hse] at KS
    simp only at KS ⊢
    clear hse
    go_enter Tryz.func121, Tryz.ntmps121
    go_wp2_with (first | (go_at_call 131; refine KS.mono ?_; rintro q w2 ⟨v, rfl, g1, g2⟩; obtain ⟨ty, x, rfl⟩ := g1.iface))
    go_ret
    exact ReadOut.fault I (Nat.le_refl _) g1 g2
  | none =>
    unfold SealPost at KS
    rw [hse] at KS
    simp only at KS ⊢
    have hz2 := sz2 hnx
    have hl8 : t.length = s.sz := by
      unfold sealP at hse
      split at hse
      · cases hse
      · omega
    obtain ⟨b, off, ebt, hB⟩ : ∃ b off, bt = some ⟨b, off, none⟩ ∧ Byt w b off t := by
      have hot := I.ot
      unfold OwnB at hot
      obtain ⟨g, c, e, _, _, _, _, hB⟩ := owns_byt hot (by omega)
      rw [eT] at e
      cases e
      exact ⟨g, 0, rfl, hB⟩
    subst ebt
    obtain ⟨q, eq⟩ : ∃ q, t.length - 8 = q := ⟨_, rfl⟩
    have hq : q + 8 = t.length := by omega
    have hq2 : s.col.length + q ≤ s.ln := by have := hb.col; omega
    have hu : (part t 0 q).length = q := part_length (by omega)
    have hBu : Byt w b off (part t 0 q) := by have := hB.part (a := 0) (n := q) (by omega); exact this
    have hLu : Lies w (.slice (some ⟨b, off, none⟩) q ct) (u8V (part t 0 q)) := by
      refine ⟨_, ct, by rw [u8V_length, hu], by rw [u8V_length, hu]; omega, fun j u hj => ⟨b, off, rfl, ?_⟩⟩
      obtain ⟨h1, rfl⟩ := u8V_at hj
      exact hBu j h1
    rw [eq] at KS ⊢
    have hln := hb.ln
    have hpl := hb.pl
    have hF := usedI_small s.k s.i s.tt hk1 htt
    have KU := fun j => used_any (s.k : Int) (s.i : Int) (s.tt : Int) s.k s.i s.tt rfl rfl rfl hk1 (by omega) (by omega) htt (w.drewN j)
    have KF := fun j => firstI_any (usedI s.k s.i s.tt - (s.col.length : Int)) (by omega) _ (part t 0 q) (by omega) (w.drewN j) (hLu.drewN j)
    rw [firstI_pad] at KF
    have c0 := RowAt.cell I.rd (i := 0) rfl
    have c2 := RowAt.cell I.rd (i := 2) rfl
    have c6 := RowAt.cell I.rd (i := 6) rfl
    have c9 := RowAt.cell I.rd (i := 9) rfl
    have c11 := RowAt.cell I.rd (i := 11) rfl
    have f6 := RowAt.frozen I.rd 6
    simp only [St.rd] at c0 c2 c6 c9 c11
    subst eC
    obtain ⟨us, eus⟩ : ∃ us, usedI s.k s.i s.tt = us := ⟨_, rfl⟩
    rw [eus] at KU KF hF ⊢
    have hwr : IntKind.i64.wrap (us - (s.col.length : Int)) = us - (s.col.length : Int) := IntWalk.i64_in _ (by omega)
    clear hse hl8 eq hsz hSP eus
    cases hp : padP (part t 0 q) (us - (s.col.length : Int)) with
    | some m =>
      rw [hp] at KF
      simp only at KF ⊢
      have hm : m < q := by have := (padP_some_iff.1 hp).1; omega
      obtain ⟨pl, epl⟩ : ∃ pl, s.pl = pl := ⟨_, rfl⟩
      rw [epl] at c11 hpl ⊢
      have hwr2 : IntKind.i64.wrap ((pl : Int) + (m : Int)) = (pl : Int) + (m : Int) := IntWalk.i64_in _ (by omega)
      clear hp
      go_enter Tryz.func121, Tryz.ntmps121
      go_wp2_with (first | (go_at_call 131; refine KS.mono ?_; rintro q w2 ⟨rfl, j, hw2⟩; obtain rfl := hw2.symm))
      go_big_quiet (first | (go_at_call 134; exact (KU _).mono (fun _ _ h => ⟨h.1, _, h.2⟩)))
      go_wp2_with (first | (go_at_call 135; refine (KF _).mono ?_; rintro q w2 ⟨rfl, hw2⟩; obtain rfl := hw2.symm) | (go_at_call 49; refine (at_any _ _ 8 (pl + m) (by rfl) (by simp) _).mono ?_; rintro q w2 ⟨v, rfl, g1, g2⟩))
      go_ret
      exact ReadOut.fault I (Nat.le_refl _) g1 (below_of_drewN g2)
    | none =>
      rw [hp] at KF
      simp only at KF ⊢
      clear hp
      have hot := I.oc
      unfold OwnB at hot
      have hBs := I.size
      have hcl := hb.col
      obtain ⟨i0, hi0, hz0, hz1, hz3⟩ := info_parts infoB8
      have hnews : ∀ j u, (u8V (part t 0 q))[j]? = some u → w.cell? ((⟨b, off, none⟩ : Addr).add j) = some u := Byt.news hBu
      go_enter Tryz.func121, Tryz.ntmps121
      go_wp2_with (first | (go_at_call 131; refine KS.mono ?_; rintro q w2 ⟨rfl, j, hw2⟩; obtain rfl := hw2.symm))
      go_big_quiet (first | (go_at_call 134; exact (KU _).mono (fun _ _ h => ⟨h.1, _, h.2⟩)))
      go_wp2_with (first | (go_at_call 135; refine (KF _).mono ?_; rintro q w2 ⟨rfl, hw2⟩; obtain rfl := hw2.symm) | (at_builtin; refine wpList_append_own_at _ rfl _ _ 24 rfl B 5 i0 (.int .u8 0) 1 1 Tryz.underlying24 hi0 hz0 hz1 hz3 rfl (by decide) _ _ _ rfl (by exact hot) ⟨b, off, none⟩ q ct (u8V (part t 0 q)) rfl (by rw [u8V_length, hu]; omega) (by exact hnews) (u8V_one _) (by unfold maxLen; omega) (by omega) (by exact hBs) ?_; intro v2 w2 hown2 hgrow2 _ hblk2; have ow := own_app hown2; obtain ⟨b2, c3, rfl, hc3⟩ := ow.slice; obtain ⟨J, hJ, x6, y6⟩ := RI.column (I.drewN _) ow hgrow2 hblk2))
      go_ret
      have e2 : (s.col ++ part t 0 q).length = s.col.length + q := by rw [List.length_append, hu]
      rw [e2] at J hJ hblk2
      refine ⟨((But.refl w.heap.size _ w).drewN _).trans hJ, rfl, vN, vS, _, J, ?_⟩
      rcases hblk2 with e | e
      · exact .inl e
      · exact .inr ⟨_, e, Nat.le_refl _⟩
end
end Go.Proofs.YtlghjjennhpjeaaGreatDoor

/-
  How the program reads a shard: the manifest (listing): wrong, nameLength.
  How the program reads a shard: the manifest: one blob (readBlob).
  How the program reads a shard: the manifest: one blob (readBlob), its size.
-/
namespace Go.Proofs.YtlghjjennhpjeaaGreatDoor
open Go.RowKit Go.Deep

/-- A listing's six cells. -/
def lsL (v : Value) (pl a : Nat) (vN vS : Value) (tt : Nat) : List Value := [v, .int .i64 (pl : Int), .int .i64 (a : Int), vN, vS, .int .i64 (tt : Int)]
def LsAt (w : World) (lb : Nat) (v : Value) (pl a : Nat) (vN vS : Value) (tt : Nat) : Prop := RowAt w lb (lsL v pl a vN vS tt) 208

section
variable (lb : Nat) (v : Value) (pl a : Nat) (vN vS : Value) (tt : Nat) (hpl : pl ≤ 1000000000000) (ha : a ≤ 1000000000) (w : World) (h : LsAt w lb v pl a vN vS tt)
set_option maxHeartbeats 2000000 in
set_option maxRecDepth 100000 in
include hpl ha h in
theorem wrong_any (X : Int) (x p : Nat) (hX : X = x) (hx : x ≤ 1000000000) (hp : p = pl + a + x) :
    Calls Tryz.prog 141 #[.pointer (some ⟨lb, 0, none⟩), .int .i64 X] w fun q w' => Faulty w 0 7 p q w' := by
  subst hX
  have c1 := RowAt.cell h (i := 1) rfl
  have c2 := RowAt.cell h (i := 2) rfl
  have hwr : IntKind.i64.wrap ((pl : Int) + (a : Int)) = (pl : Int) + (a : Int) := IntWalk.i64_in _ (by omega)
  have hwr2 : IntKind.i64.wrap ((pl : Int) + (a : Int) + (x : Int)) = (pl : Int) + (a : Int) + (x : Int) := IntWalk.i64_in _ (by omega)
  have HP : Hid (p = pl + a + x) := hp
  clear h hp
  go_enter Tryz.func141, Tryz.ntmps141
  go_wp2_with fail
  refine wp_region_quiet_tail 11 mixed (by kernel_rfl) ?_
  simp only [List.take_succ_cons, List.take_zero, List.drop_succ_cons, List.drop_zero]
  repeat (first | go_big_quiet_skip | (go_big_quiet_want; go_big_quiet_op; go_big_quiet_on))
  refine wpQuiet_nil ?_
  go_wp2_with (first | (go_at_call 49; refine (at_any _ _ 7 p (by rfl) (by rw [HP.out]; simp) _).mono ?_; rintro q w2 ⟨v, rfl, g1, g2⟩))
  go_ret
  exact Faulty.of_drewN (j := 1) ⟨_, rfl, g1, g2⟩
end
section
variable (lb : Nat) (b off ct : Nat) (u : List UInt8) (pl a : Nat) (vN vS : Value) (tt : Nat) (hu : u.length ≤ 1000000) (hct : u.length < ct) (ha : a ≤ u.length) (w : World) (h : LsAt w lb (.slice (some ⟨b, off, none⟩) u.length ct) pl a vN vS tt) (hB : Byt w b off u)
set_option maxRecDepth 100000 in
theorem slice_from (bb bo len cap : Nat) (L : Int) (a : Nat) (hL : L = a) (hc : a ≤ len) (ha : a < cap) : ∀ w, (Instr.slice 24 (.slice (some ⟨bb, bo, none⟩) len cap) (some (.int .i64 L)) none none).run Tryz.prog w = .ok (.slice (some ⟨bb, bo + a, none⟩) (len - a) (cap - a)) w := by
  intro w
  subst hL
  have hu : Tryz.prog.underlying 24 = some (.slice (Tryz.prog.elem 24)) := Tryz.underlying24
  rw [run_slice_l w 24 _ _ _ hu .i64 a (by omega) (by omega)]
  have hsz : (sizeOf (Tryz.prog.elem 24)).run Tryz.prog w = .ok 1 w := by
    simp [sizeOf, go_sem]
    rfl
  rw [hsz]
  simp only [Result.andThen, sliced, Int.toNat_natCast, Nat.mul_one]
  rw [if_neg (by omega)]
  simp [add_off]
set_option maxHeartbeats 2000000 in
set_option maxRecDepth 100000 in
include hct ha h in
theorem nameLength_short (hs : u.length < a + 6) :
    Calls Tryz.prog 144 #[.pointer (some ⟨lb, 0, none⟩)] w fun q w' => q = .returned (.tuple #[.int .i64 0, .bool false]) ∧ ∃ j, w' = w.drewN j := by
  have c0 := RowAt.cell h (i := 0) rfl
  have c2 := RowAt.cell h (i := 2) rfl
  have sl := slice_from b off u.length ct (a : Int) a rfl ha (by omega)
  obtain ⟨d, ed⟩ : ∃ d, u.length - a = d := ⟨_, rfl⟩
  have hd : d < 6 := by omega
  rw [ed] at sl
  clear h ed hs
  go_enter Tryz.func144, Tryz.ntmps144
  go_wp2_with fail
  go_big_quiet (fail)
  go_wp2
  go_ret2
  exact ⟨rfl, _, rfl⟩
set_option maxHeartbeats 4000000 in
set_option maxRecDepth 100000 in
include hu hct ha h hB in
theorem nameLength_any (hs : a + 6 ≤ u.length) :
    Calls Tryz.prog 144 #[.pointer (some ⟨lb, 0, none⟩)] w fun q w' => q = .returned (.tuple #[.int .i64 (le u a 2 : Nat), .bool (decide (1 ≤ le u a 2 ∧ le u a 2 ≤ 255 ∧ a + 6 + le u a 2 ≤ u.length))]) ∧ ∃ j, w' = w.drewN j := by
  have c0 := RowAt.cell h (i := 0) rfl
  have c2 := RowAt.cell h (i := 2) rfl
  have sl := slice_from b off u.length ct (a : Int) a rfl ha (by omega)
  have hP : (part u a 2).length = 2 := part_length (by omega)
  have K := fun n cap => readNumber_any b (off + a) 2 cap (part u a 2) hP (by omega) (w.drewN n) (hB.part (by omega))
  have hle : le (part u a 2) 0 2 = le u a 2 := by
    simp only [le]
    rw [part_at (by omega), part_at (by omega)]; rfl
  have hlt : le u a 2 < 65536 := le_lt u 2 a
  rw [hle] at K
  obtain ⟨y, ey⟩ : ∃ y, le u a 2 = y := ⟨_, rfl⟩
  rw [ey] at K hlt ⊢
  obtain ⟨d, ed⟩ : ∃ d, u.length - a = d := ⟨_, rfl⟩
  have hd : 6 ≤ d := by omega
  have hd2 : d ≤ 1000000 := by omega
  obtain ⟨ce, ece⟩ : ∃ ce, ct - a = ce := ⟨_, rfl⟩
  have hce : 6 ≤ ce := by omega
  rw [ed, ece] at sl
  have HQ : Hid (decide (1 ≤ y ∧ y ≤ 255 ∧ a + 6 + y ≤ u.length) = decide (1 ≤ y ∧ y ≤ 255 ∧ y + 6 ≤ d)) := by
    show decide _ = decide _
    congr 1
    apply propext
    omega
  rw [HQ.out]
  clear h ed ece hs hle hP hB ey HQ
  by_cases q1 : 1 ≤ y
  · by_cases q2 : y ≤ 255
    · by_cases q3 : y + 6 ≤ d
      all_goals
        first | (have HE : Hid (decide (1 ≤ y ∧ y ≤ 255 ∧ y + 6 ≤ d) = true) := (show _ = _ by simp; omega)) | (have HE : Hid (decide (1 ≤ y ∧ y ≤ 255 ∧ y + 6 ≤ d) = false) := (show _ = _ by simp; omega))
        rw [HE.out]
        clear HE
        go_enter Tryz.func144, Tryz.ntmps144
        go_wp2_with fail
        go_big_quiet (fail)
        go_wp2_with (first | (go_at_call 139; refine (K _ _).mono ?_; rintro q w' ⟨rfl, hw'⟩; obtain rfl := hw'.symm))
        try go_big_quiet (fail)
        try go_wp2
        go_ret2
        exact ⟨by first | rfl | (congr 3; simp; omega), _, rfl⟩
    · have HE : Hid (decide (1 ≤ y ∧ y ≤ 255 ∧ y + 6 ≤ d) = false) := (show _ = _ by simp; omega)
      rw [HE.out]
      clear HE
      go_enter Tryz.func144, Tryz.ntmps144
      go_wp2_with fail
      go_big_quiet (fail)
      go_wp2_with (first | (go_at_call 139; refine (K _ _).mono ?_; rintro q w' ⟨rfl, hw'⟩; obtain rfl := hw'.symm))
      try go_big_quiet (fail)
      try go_wp2
      go_ret2
      exact ⟨by first | rfl | (congr 3; simp; omega), _, rfl⟩
  · have HE : Hid (decide (1 ≤ y ∧ y ≤ 255 ∧ y + 6 ≤ d) = false) := (show _ = _ by simp; omega)
    rw [HE.out]
    clear HE
    go_enter Tryz.func144, Tryz.ntmps144
    go_wp2_with fail
    go_big_quiet (fail)
    go_wp2_with (first | (go_at_call 139; refine (K _ _).mono ?_; rintro q w' ⟨rfl, hw'⟩; obtain rfl := hw'.symm))
    try go_big_quiet (fail)
    try go_wp2
    go_ret2
    exact ⟨by first | rfl | (congr 3; simp; omega), _, rfl⟩
end
end Go.Proofs.YtlghjjennhpjeaaGreatDoor

namespace Go.Proofs.YtlghjjennhpjeaaGreatDoor
open Go.RowKit Go.Deep

/-- A manifest as far as it is read. -/
structure LsI (B : Nat) (w : World) (lb b off ct : Nat) (u : List UInt8) (pl a : Nat) (vN vS : Value) (ns : List (List UInt8)) (zs : List Nat) : Prop where
  ls : LsAt w lb (.slice (some ⟨b, off, none⟩) u.length ct) pl a vN vS zs.sum
  on : w.ownsRow B 9 1 vN ns.length (strsV ns)
  os : w.ownsRow B 3 1 vS zs.length (natV zs)
  ap : Apart2 vN vS
  byt : Byt w b off u
  size : B ≤ w.heap.size
def BlobPost (B : Nat) (w : World) (lb b off ct : Nat) (u : List UInt8) (pl a : Nat) (ns : List (List UInt8)) (zs : List Nat) (q : Ending) (w' : World) : Prop :=
  match blob1 u a ns zs with
  | .error p => Faulty w 0 7 (pl + p) q w'
  | .ok (nm, z) => q = .returned .nilIface ∧ But B (· = lb) w w' ∧ ∃ vN vS, LsI B w' lb b off ct u pl (a + (6 + nm.length)) vN vS (ns ++ [nm]) (zs ++ [z])
theorem LsAt.drewN {w : World} {lb : Nat} {v : Value} {pl a : Nat} {vN vS : Value} {tt : Nat} (h : LsAt w lb v pl a vN vS tt) (j : Nat) : LsAt (w.drewN j) lb v pl a vN vS tt := h

section
variable (B lb b off ct : Nat) (u : List UInt8) (pl a : Nat) (vN vS : Value) (ns : List (List UInt8)) (zs : List Nat) (hlB : lb < B) (hbB : b < B) (hlb : lb ≠ b) (hu : u.length ≤ 1000000) (hct : u.length < ct) (ha : a ≤ u.length) (hpl : pl ≤ 1000000000000) (hns : ns.length < 1000) (hzl : zs.length = ns.length) (hzs : zs.sum ≤ 65536) (w : World) (I : LsI B w lb b off ct u pl a vN vS ns zs)
set_option maxHeartbeats 2000000 in
set_option maxRecDepth 100000 in
include hu hct ha hpl I in
theorem readBlob_1 (hs : u.length < a + 6 ∨ le u a 2 < 1 ∨ 255 < le u a 2 ∨ u.length < a + 6 + le u a 2) :
    Calls Tryz.prog 142 #[.pointer (some ⟨lb, 0, none⟩)] w fun q w' => Faulty w 0 7 (pl + a) q w' := by
  obtain ⟨y, K⟩ : ∃ y : Nat, Calls Tryz.prog 144 #[.pointer (some ⟨lb, 0, none⟩)] w fun q w' => q = .returned (.tuple #[.int .i64 (y : Int), .bool false]) ∧ ∃ j, w' = w.drewN j := by
    by_cases q : u.length < a + 6
    · exact ⟨0, nameLength_short lb b off ct u pl a vN vS zs.sum hct ha w I.ls q⟩
    · refine ⟨le u a 2, (nameLength_any lb b off ct u pl a vN vS zs.sum hu hct ha w I.ls I.byt (by omega)).mono fun r w' hh => ⟨?_, hh.2⟩⟩
      rw [hh.1]
      have : decide (1 ≤ le u a 2 ∧ le u a 2 ≤ 255 ∧ a + 6 + le u a 2 ≤ u.length) = false := by simp; omega
      rw [this]
  have KW := fun j => wrong_any lb _ pl a vN vS zs.sum hpl (by omega) (w.drewN j) (I.ls.drewN j) 0 0 (pl + a) rfl (by omega) (by omega)
  clear I hs
  go_enter Tryz.func142, Tryz.ntmps142
  go_wp2_with (first | (go_at_call 144; refine K.mono ?_; rintro q w2 ⟨rfl, j, hw2⟩; obtain rfl := hw2.symm) | (go_at_call 141; refine (KW _).mono ?_; rintro q w2 ⟨v, rfl, g1, g2⟩))
  go_ret
  exact Faulty.of_drewN ⟨_, rfl, g1, g2⟩
set_option maxHeartbeats 4000000 in
set_option maxRecDepth 100000 in
include hu hct ha hpl hns I in
theorem readBlob_2 (k : Nat) (hk : le u a 2 = k) (hs : a + 6 + k ≤ u.length) (hk1 : 1 ≤ k) (hk2 : k ≤ 255) (nm : List UInt8) (hnm : part u (a + 2) k = nm) (hq0 : 0 < ns.length) (hq : notBehind nm (ns.getD (ns.length - 1) []) = true) :
    Calls Tryz.prog 142 #[.pointer (some ⟨lb, 0, none⟩)] w fun q w' => Faulty w 0 7 (pl + (a + 2)) q w' := by
  have K := nameLength_any lb b off ct u pl a vN vS zs.sum hu hct ha w I.ls I.byt (by omega)
  rw [hk, show decide (1 ≤ k ∧ k ≤ 255 ∧ a + 6 + k ≤ u.length) = true by simp; omega] at K
  have sl := slice_part b off u.length ct (a : Int) ((a : Int) + (k : Int) + 6) a (a + k + 6) rfl (by simp) (by omega) (by omega) (by omega)
  rw [show a + k + 6 - a = k + 6 by omega] at sl
  obtain ⟨ce, ece⟩ : ∃ ce, ct - a = ce := ⟨_, rfl⟩
  have hce : k + 6 < ce := by omega
  rw [ece] at sl
  have sl2 := slice_part b (off + a) (k + 6) ce 2 (2 + (k : Int)) 2 (2 + k) rfl (by simp) (by omega) (by omega) (by omega)
  rw [show 2 + k - 2 = k by omega] at sl2
  have hcv := fun w' (hw : Byt w' b off u) => conv_part (hw.part (a := a + 2) (n := k) (by omega)) k (part_length (by omega)) (ce - 2)
  rw [show off + (a + 2) = off + a + 2 by omega, hnm] at hcv
  have c0 := RowAt.cell I.ls (i := 0) rfl
  have c2 := RowAt.cell I.ls (i := 2) rfl
  have c3 := RowAt.cell I.ls (i := 3) rfl
  have c5 := RowAt.cell I.ls (i := 5) rfl
  have hb2 : ∀ j, Byt (w.drewN j) b off u := fun j => I.byt
  have hwr : IntKind.i64.wrap ((a : Int) + (k : Int)) = (a : Int) + (k : Int) := IntWalk.i64_in _ (by omega)
  have hwr2 : IntKind.i64.wrap ((a : Int) + (k : Int) + 6) = (a : Int) + (k : Int) + 6 := IntWalk.i64_in _ (by omega)
  have KW := fun j (x : Nat) hx => wrong_any lb _ pl a vN vS zs.sum hpl (by omega) (w.drewN j) (I.ls.drewN j) (x : Int) x (pl + a + x) rfl hx rfl
  obtain ⟨c0', ec⟩ : ∃ c0', ns.length = c0' + 1 := ⟨ns.length - 1, by omega⟩
  have hon := I.on
  obtain ⟨g, cn, ev⟩ := owns_some hon (by omega)
  rw [ev] at hon c3
  have hla := hon.cellAt c0' (by omega)
  rw [strV_at (by omega)] at hla
  rw [show ns.length - 1 = c0' by omega] at hq
  obtain ⟨la, el⟩ : ∃ la, ns.getD c0' [] = la := ⟨_, rfl⟩
  rw [el] at hla hq
  rw [ec] at c3 hns
  unfold notBehind at hq
  have K2 := fun j => KW j 2 (by omega)
  clear KW hon ev el ec ece hk hnm I hs hq0
  rcases hq1 : Op.bytesLess nm la with _ | _
  all_goals
    rw [hq1] at hq
    try simp only [Bool.false_or] at hq
    go_enter Tryz.func142, Tryz.ntmps142
    go_wp2_with (first | (go_at_call 144; refine K.mono ?_; rintro q w2 ⟨rfl, j, hw2⟩; obtain rfl := hw2.symm))
    go_big_quiet (fail)
    have hcv1 := hcv _ (hb2 (j + nq))
    go_wp2_with fail
    go_big_quiet (fail)
    go_wp2_with (first | (go_at_call 141; refine (K2 _).mono ?_; rintro q w2 ⟨v, rfl, g1, g2⟩))
    go_ret
    exact Faulty.of_drewN ⟨_, rfl, g1, g2⟩
end
end Go.Proofs.YtlghjjennhpjeaaGreatDoor

namespace Go.Proofs.YtlghjjennhpjeaaGreatDoor
open Go.RowKit Go.Deep
section
variable (B lb b off ct : Nat) (u : List UInt8) (pl a : Nat) (vN vS : Value) (ns : List (List UInt8)) (zs : List Nat) (hlB : lb < B) (hbB : b < B) (hlb : lb ≠ b) (hu : u.length ≤ 1000000) (hct : u.length < ct) (ha : a ≤ u.length) (hpl : pl ≤ 1000000000000) (hns : ns.length < 1000) (hzl : zs.length = ns.length) (hzs : zs.sum ≤ 65536) (w : World) (I : LsI B w lb b off ct u pl a vN vS ns zs)
set_option maxHeartbeats 4000000 in
set_option maxRecDepth 100000 in
include hu hct ha hpl hns hzs I in
theorem readBlob_3 (k : Nat) (hk : le u a 2 = k) (hs : a + 6 + k ≤ u.length) (hk1 : 1 ≤ k) (hk2 : k ≤ 255) (nm : List UInt8) (hnm : part u (a + 2) k = nm) (z : Nat) (hz : le u (a + 2 + k) 4 = z) (hbig : 65536 < zs.sum + z) (hq : 0 < ns.length → notBehind nm (ns.getD (ns.length - 1) []) = false) :
    Calls Tryz.prog 142 #[.pointer (some ⟨lb, 0, none⟩)] w fun q w' => Faulty w 0 7 (pl + (a + (2 + k))) q w' := by
  have K := nameLength_any lb b off ct u pl a vN vS zs.sum hu hct ha w I.ls I.byt (by omega)
  rw [hk, show decide (1 ≤ k ∧ k ≤ 255 ∧ a + 6 + k ≤ u.length) = true by simp; omega] at K
  have sl := slice_part b off u.length ct (a : Int) ((a : Int) + (k : Int) + 6) a (a + k + 6) rfl (by simp) (by omega) (by omega) (by omega)
  rw [show a + k + 6 - a = k + 6 by omega] at sl
  obtain ⟨ce, ece⟩ : ∃ ce, ct - a = ce := ⟨_, rfl⟩
  have hce : k + 6 < ce := by omega
  rw [ece] at sl
  have sl2 := slice_part b (off + a) (k + 6) ce 2 (2 + (k : Int)) 2 (2 + k) rfl (by simp) (by omega) (by omega) (by omega)
  rw [show 2 + k - 2 = k by omega] at sl2
  have hcv := fun w' (hw : Byt w' b off u) => conv_part (hw.part (a := a + 2) (n := k) (by omega)) k (part_length (by omega)) (ce - 2)
  rw [show off + (a + 2) = off + a + 2 by omega, hnm] at hcv
  have c0 := RowAt.cell I.ls (i := 0) rfl
  have c2 := RowAt.cell I.ls (i := 2) rfl
  have c3 := RowAt.cell I.ls (i := 3) rfl
  have c5 := RowAt.cell I.ls (i := 5) rfl
  have hb2 : ∀ j, Byt (w.drewN j) b off u := fun j => I.byt
  have hwr : IntKind.i64.wrap ((a : Int) + (k : Int)) = (a : Int) + (k : Int) := IntWalk.i64_in _ (by omega)
  have hwr2 : IntKind.i64.wrap ((a : Int) + (k : Int) + 6) = (a : Int) + (k : Int) + 6 := IntWalk.i64_in _ (by omega)
  have KW := fun j (x : Nat) hx => wrong_any lb _ pl a vN vS zs.sum hpl (by omega) (w.drewN j) (I.ls.drewN j) (x : Int) x (pl + a + x) rfl hx rfl
  have e4 : (part u (a + 2 + k) 4).length = 4 := part_length (by omega)
  have hle4 : le (part u (a + 2 + k) 4) 0 4 = le u (a + 2 + k) 4 := by
    simp only [le]
    rw [part_at (by omega), part_at (by omega), part_at (by omega), part_at (by omega)]
    simp only [Nat.add_zero, Nat.zero_add, Nat.add_assoc]
  have sl3 := slice_from b (off + a) (k + 6) ce (2 + (k : Int)) (2 + k) (by simp) (by omega) (by omega)
  rw [show k + 6 - (2 + k) = 4 by omega] at sl3
  have K4 := fun n cap => readNumber_any b (off + (a + 2 + k)) 4 cap (part u (a + 2 + k) 4) e4 (by omega) (w.drewN n) (I.byt.part (by omega))
  rw [hle4, hz, show off + (a + 2 + k) = off + a + (2 + k) by omega] at K4
  have hz32 : z < 2 ^ 32 := by have := le_lt u 4 (a + 2 + k); rw [hz] at this; exact this
  obtain ⟨S, eS⟩ : ∃ S, zs.sum = S := ⟨_, rfl⟩
  have K2 := fun j => wrong_any lb _ pl a vN vS zs.sum hpl (by omega) (w.drewN j) (I.ls.drewN j) (2 + (k : Int)) (2 + k) (pl + (a + (2 + k))) (by simp) (by omega) (by omega)
  rw [eS] at c5 hbig hzs
  by_cases q0 : ns.length = 0
  · have c3' : w.cell? ⟨lb, 3, none⟩ = some (.slice none 0 0) ∨ ∃ g cn, w.cell? ⟨lb, 3, none⟩ = some (.slice (some ⟨g, 0, none⟩) 0 cn) := by
      rcases I.on.2 with ⟨e, _⟩ | ⟨g, cn, cur, e, _⟩
      · left; rw [c3, e]
      · right; exact ⟨g, cn, by rw [c3, e, q0]⟩
    clear KW c3 ece hk hnm I hs hq eS hle4 e4 hz
    rcases c3' with c3 | ⟨g, cn, c3⟩
    all_goals
      go_enter Tryz.func142, Tryz.ntmps142
      go_wp2_with (first | (go_at_call 144; refine K.mono ?_; rintro q w2 ⟨rfl, j, hw2⟩; obtain rfl := hw2.symm))
      go_big_quiet (fail)
      have hcv1 := hcv _ (hb2 (j + nq))
      go_wp2_with fail
      go_big_quiet (fail)
      go_wp2_with (first | (go_at_call 139; refine (K4 _ _).mono ?_; rintro q w' ⟨rfl, hw'⟩; obtain rfl := hw'.symm) | (go_at_call 141; refine (K2 _).mono ?_; rintro q w2 ⟨v, rfl, g1, g2⟩))
      go_ret
      exact Faulty.of_drewN ⟨_, rfl, g1, g2⟩
  · replace hq := hq (by omega)
    obtain ⟨c0', ec⟩ : ∃ c0', ns.length = c0' + 1 := ⟨ns.length - 1, by omega⟩
    have hon := I.on
    obtain ⟨g, cn, ev⟩ := owns_some hon (by omega)
    rw [ev] at hon c3
    have hla := hon.cellAt c0' (by omega)
    rw [strV_at (by omega)] at hla
    rw [show ns.length - 1 = c0' by omega] at hq
    obtain ⟨la, el⟩ : ∃ la, ns.getD c0' [] = la := ⟨_, rfl⟩
    rw [el] at hla hq
    rw [ec] at c3 hns
    unfold notBehind at hq
    obtain ⟨hq1, hq2⟩ := Bool.or_eq_false_iff.1 hq
    clear KW hon ev el ec ece hk hnm I hs hq eS hle4 e4 hz
    go_enter Tryz.func142, Tryz.ntmps142
    go_wp2_with (first | (go_at_call 144; refine K.mono ?_; rintro q w2 ⟨rfl, j, hw2⟩; obtain rfl := hw2.symm))
    go_big_quiet (fail)
    have hcv1 := hcv _ (hb2 (j + nq))
    go_wp2_with fail
    go_big_quiet (fail)
    go_wp2_with (first | (go_at_call 139; refine (K4 _ _).mono ?_; rintro q w' ⟨rfl, hw'⟩; obtain rfl := hw'.symm) | (go_at_call 141; refine (K2 _).mono ?_; rintro q w2 ⟨v, rfl, g1, g2⟩))
    go_ret
    exact Faulty.of_drewN ⟨_, rfl, g1, g2⟩
end
end Go.Proofs.YtlghjjennhpjeaaGreatDoor

/-
  How the program reads a shard: the head's numbers (readNumbers).
-/
import Derived.Test.YtkpcmfgeanlcnaaDoorPlB
import Derived.Test.YtkpcmfgeanlcnaaDoorTailQ
import Derived.Deep.CutRange
import Derived.Deep.RegionHeld3
namespace Go.Proofs.YtkpcmfgeanlcnaaDoor
open Go.RowKit Go.Deep

theorem le_part' {t : List UInt8} {n : Nat} : ∀ (m j : Nat) (i : Nat), i + m ≤ n → le (part t j n) i m = le t (j + i) m
  | 0, _, _, _ => rfl
  | m + 1, j, i, h => by
    show bAt (part t j n) i + 256 * le (part t j n) (i + 1) m = bAt t (j + i) + 256 * le t (j + i + 1) m
    rw [part_at (by omega), le_part' m j (i + 1) (by omega), Nat.add_assoc]
set_option maxHeartbeats 1000000 in
set_option maxRecDepth 100000 in
theorem number_any (bx b off ct : Nat) (u : List UInt8) (hu : u.length = 24) (hct : 24 ≤ ct) (A N : Int) (a n : Nat) (hA : A = a) (hN : N = n) (hn : n ≤ 4) (ha : a + n ≤ 24) (ha2 : a < 24) (w : World) (h : w.cell? ⟨bx, 0, none⟩ = some (.slice (some ⟨b, off, none⟩) 24 ct)) (hB : Byt w b off u) :
    Calls Tryd.prog 155 #[.int .i64 A, .int .i64 N, .pointer (some ⟨bx, 0, none⟩)] w fun q w' => q = .returned (.int .i64 (le u a n : Nat)) ∧ w' = w := by
  subst hA hN
  have hP : (part u a n).length = n := part_length (by omega)
  have K := fun cap => readNumber_any b (off + a) n cap (part u a n) hP (by omega) w (hB.part (by omega))
  have hle : le (part u a n) 0 n = le u a n := le_part' n a 0 (by omega)
  have hlt : le u a n < 2 ^ 32 := Nat.lt_of_lt_of_le (le_lt u n a) (by rw [show (2 : Nat) ^ 32 = 256 ^ 4 from rfl]; exact Nat.pow_le_pow_right (by omega) hn)
  rw [hle] at K
  obtain ⟨y, ey⟩ : ∃ y, le u a n = y := ⟨_, rfl⟩
  rw [ey] at K hlt ⊢
  have sl := slice_part b off 24 ct (a : Int) ((a : Int) + (n : Int)) a (a + n) rfl (by simp) (by omega) (by omega) (by omega)
  rw [show a + n - a = n by omega] at sl
  clear ey hle hP hB hu
  go_enter Tryd.func155, Tryd.ntmps155
  go_wp2_with (first | (go_at_call 154; refine (K _).mono ?_; rintro q w' ⟨rfl, hw'⟩; obtain rfl := hw'.symm))
  go_ret
  exact ⟨rfl, rfl⟩
/-- What the numbers of a head leave. -/
def Rd.nums (r : Rd) (u : List UInt8) : Rd := { r with k := le u 6 1, n := le u 7 1, i := le u 8 1, c := le u 10 4, m := le u 14 4, ln := le u 18 4 }
def NumsPost (w : World) (rb : Nat) (r : Rd) (u : List UInt8) (q : Ending) (w' : World) : Prop :=
  But w.heap.size (· = rb) w w' ∧ RdAt w' rb (r.nums u) ∧ match numsE (numsP u) with
    | some p => ∃ v, q = .returned v ∧ Chain w' 0 v 1 p
    | none => q = .returned .nilIface

theorem nums_kept {w w3 w' : World} {rb : Nat} {R : Rd} (hA : But w.heap.size (· = rb) w w3) (hR : RdAt w3 rb R) (hb : Below w3.heap.size w3 w') : But w.heap.size (· = rb) w w' ∧ RdAt w' rb R :=
  ⟨hA.trans (.of_below (hb.mono hA.size)), RowAt.later hR (S := fun _ => False) (.of_below hb) (RowAt.lt hR) id⟩
/-- The eight numbers, as they lie in memory. -/
def numsV (u : List UInt8) : List Value := [.int .i64 6, .int .i64 (le u 6 1 : Nat), .int .i64 1, .int .i64 128, .int .i64 7, .int .i64 (le u 7 1 : Nat), .int .i64 (le u 6 1 : Nat), .int .i64 128, .int .i64 8, .int .i64 (le u 8 1 : Nat), .int .i64 0, .int .i64 ((le u 7 1 : Nat) - 1), .int .i64 9, .int .i64 (le u 9 1 : Nat), .int .i64 0, .int .i64 0, .int .i64 10, .int .i64 (le u 10 4 : Nat), .int .i64 1, .int .i64 65536, .int .i64 14, .int .i64 (le u 14 4 : Nat), .int .i64 4, .int .i64 300000, .int .i64 18, .int .i64 (le u 18 4 : Nat), .int .i64 0, .int .i64 65536, .int .i64 22, .int .i64 (le u 22 2 : Nat), .int .i64 0, .int .i64 0]
section
variable (rb : Nat) (r : Rd) (u : List UInt8) (b off ct : Nat) (hu : u.length = 24) (hct : 24 ≤ ct) (hbr : b ≠ rb) (w : World) (h : RdAt w rb r) (hB : Byt w b off u)
set_option maxHeartbeats 8000000 in
set_option maxRecDepth 100000 in
include hu hct hbr h hB in
theorem readNumbers_any :
    Calls Tryd.prog 150 #[.pointer (some ⟨rb, 0, none⟩), .slice (some ⟨b, off, none⟩) 24 ct] w fun q w' => NumsPost w rb r u q w' := by
  have hrb := RowAt.lt h
  have hbb : b < w.heap.size := cell_lt (hB 0 (by omega))
  have hA := (But.refl w.heap.size (· = rb) w).alloc (Nat.le_refl _) (.cells #[Value.slice (some ⟨b, off, none⟩) 24 ct] 24)
  have hx0 : RowAt (w.alloc (.cells #[Value.slice (some ⟨b, off, none⟩) 24 ct] 24)) w.heap.size [.slice (some ⟨b, off, none⟩) 24 ct] 24 := RowAt.made w _ _
  have hR0 : RdAt (w.alloc (.cells #[Value.slice (some ⟨b, off, none⟩) 24 ct] 24)) rb r := by
    unfold RdAt RowAt at *
    rw [Below.heap_alloc w _ rb hrb]; exact h
  have hB0 := hB.later hA hbb hbr
  have hN : ∀ a n, n ≤ 4 → le u a n < 2 ^ 32 := fun a n hn => Nat.lt_of_lt_of_le (le_lt u n a) (by rw [show (2 : Nat) ^ 32 = 256 ^ 4 from rfl]; exact Nat.pow_le_pow_right (by omega) hn)
  go_enter Tryd.func150, Tryd.ntmps150
  go_upto_region 3 with (fail)
  obtain ⟨bx, ebx⟩ : ∃ bx, w.heap.size = bx := ⟨_, rfl⟩
  have hxr : bx ≠ rb := by omega
  have hxb : bx ≠ b := by omega
  rw [ebx] at hx0 ⊢
  have EB : Hid (w.heap.size = bx) := ebx
  clear ebx h hB
  generalize w.alloc (.cells #[Value.slice (some ⟨b, off, none⟩) 24 ct] 24) = w0 at hA hx0 hR0 hB0 ⊢
  have f0 := RowAt.frozen hR0
  have c0 := RowAt.cell hR0 (i := 0) rfl
  have c1 := RowAt.cell hR0 (i := 1) rfl
  have c2 := RowAt.cell hR0 (i := 2) rfl
  have c3 := RowAt.cell hR0 (i := 3) rfl
  go_upto_region 4 with (first | (go_at_call 155; refine (number_any _ b off ct u hu hct _ _ 6 1 (by rfl) (by rfl) (by omega) (by omega) (by omega) _ (by exact hx0.cell rfl) (by exact hB0)).mono ?_; rintro q w' ⟨rfl, hw'⟩; obtain rfl := hw'.symm) | (go_at_call 155; refine (number_any _ b off ct u hu hct _ _ 7 1 (by rfl) (by rfl) (by omega) (by omega) (by omega) _ (by exact hx0.cell rfl) (by exact hB0)).mono ?_; rintro q w' ⟨rfl, hw'⟩; obtain rfl := hw'.symm) | (go_at_call 155; refine (number_any _ b off ct u hu hct _ _ 8 1 (by rfl) (by rfl) (by omega) (by omega) (by omega) _ (by exact hx0.cell rfl) (by exact hB0)).mono ?_; rintro q w' ⟨rfl, hw'⟩; obtain rfl := hw'.symm) | (go_at_call 155; refine (number_any _ b off ct u hu hct _ _ 10 4 (by rfl) (by rfl) (by omega) (by omega) (by omega) _ (by exact hx0.cell rfl) (by exact hB0)).mono ?_; rintro q w' ⟨rfl, hw'⟩; obtain rfl := hw'.symm))
  have hR1 : RdAt _ rb { r with k := le u 6 1, n := le u 7 1, i := le u 8 1, c := le u 10 4 } := (((RowAt.set hR0 0 (.int .i64 (le u 6 1 : Nat))).set 1 (.int .i64 (le u 7 1 : Nat))).set 2 (.int .i64 (le u 8 1 : Nat))).set 3 (.int .i64 (le u 10 4 : Nat))
  have hA1 : But w.heap.size (· = rb) w _ := (((hA.setCell (p := ⟨rb, 0, none⟩) (.inr rfl) (.int .i64 (le u 6 1 : Nat))).setCell (p := ⟨rb, 1, none⟩) (.inr rfl) (.int .i64 (le u 7 1 : Nat))).setCell (p := ⟨rb, 2, none⟩) (.inr rfl) (.int .i64 (le u 8 1 : Nat))).setCell (p := ⟨rb, 3, none⟩) (.inr rfl) (.int .i64 (le u 10 4 : Nat))
  have hAA : But w0.heap.size (· = rb) w0 _ := ((((But.refl w0.heap.size (· = rb) w0).setCell (p := ⟨rb, 0, none⟩) (.inr rfl) (.int .i64 (le u 6 1 : Nat))).setCell (p := ⟨rb, 1, none⟩) (.inr rfl) (.int .i64 (le u 7 1 : Nat))).setCell (p := ⟨rb, 2, none⟩) (.inr rfl) (.int .i64 (le u 8 1 : Nat))).setCell (p := ⟨rb, 3, none⟩) (.inr rfl) (.int .i64 (le u 10 4 : Nat))
  have hx1 := hx0.later hAA hx0.lt hxr
  have hB1 := hB0.later hAA (cell_lt (hB0 0 (by omega))) hbr
  clear hAA hA hx0 hB0 hR0 f0 c0 c1 c2 c3
  generalize (((w0.setCell ⟨rb, 0, none⟩ (.int .i64 (le u 6 1 : Nat))).setCell ⟨rb, 1, none⟩ (.int .i64 (le u 7 1 : Nat))).setCell ⟨rb, 2, none⟩ (.int .i64 (le u 8 1 : Nat))).setCell ⟨rb, 3, none⟩ (.int .i64 (le u 10 4 : Nat)) = w1 at hA1 hx1 hR1 hB1 ⊢
  have f0 := RowAt.frozen hR1
  have c7 := RowAt.cell hR1 (i := 7) rfl
  have c8 := RowAt.cell hR1 (i := 8) rfl
  go_upto_region 5 with (first | (go_at_call 155; refine (number_any _ b off ct u hu hct _ _ 14 4 (by rfl) (by rfl) (by omega) (by omega) (by omega) _ (by exact hx1.cell rfl) (by exact hB1)).mono ?_; rintro q w' ⟨rfl, hw'⟩; obtain rfl := hw'.symm) | (go_at_call 155; refine (number_any _ b off ct u hu hct _ _ 18 4 (by rfl) (by rfl) (by omega) (by omega) (by omega) _ (by exact hx1.cell rfl) (by exact hB1)).mono ?_; rintro q w' ⟨rfl, hw'⟩; obtain rfl := hw'.symm))
  have hR2 : RdAt _ rb (r.nums u) := ((RowAt.set hR1 7 (.int .i64 (le u 14 4 : Nat))).set 8 (.int .i64 (le u 18 4 : Nat)))
  have hA2 : But w.heap.size (· = rb) w _ := (hA1.setCell (p := ⟨rb, 7, none⟩) (.inr rfl) (.int .i64 (le u 14 4 : Nat))).setCell (p := ⟨rb, 8, none⟩) (.inr rfl) (.int .i64 (le u 18 4 : Nat))
  have hAA : But w1.heap.size (· = rb) w1 _ := ((But.refl w1.heap.size (· = rb) w1).setCell (p := ⟨rb, 7, none⟩) (.inr rfl) (.int .i64 (le u 14 4 : Nat))).setCell (p := ⟨rb, 8, none⟩) (.inr rfl) (.int .i64 (le u 18 4 : Nat))
  have hx2 := hx1.later hAA hx1.lt hxr
  have hB2 := hB1.later hAA (cell_lt (hB1 0 (by omega))) hbr
  clear hAA hA1 hx1 hB1 hR1 f0 c7 c8
  generalize (w1.setCell ⟨rb, 7, none⟩ (.int .i64 (le u 14 4 : Nat))).setCell ⟨rb, 8, none⟩ (.int .i64 (le u 18 4 : Nat)) = w2 at hA2 hx2 hR2 hB2 ⊢
  have c0 := RowAt.cell hR2 (i := 0) rfl
  have c1 := RowAt.cell hR2 (i := 1) rfl
  have c2 := RowAt.cell hR2 (i := 2) rfl
  have c3 := RowAt.cell hR2 (i := 3) rfl
  have c7 := RowAt.cell hR2 (i := 7) rfl
  have c8 := RowAt.cell hR2 (i := 8) rfl
  simp only [Rd.nums] at c0 c1 c2 c3 c7 c8
  have K9 := number_any _ b off ct u hu hct 9 1 9 1 rfl rfl (by omega) (by omega) (by omega) w2.drew (show w2.drew.cell? _ = _ from hx2.cell rfl) (show Byt w2.drew b off u from hB2)
  have K22 := number_any _ b off ct u hu hct 22 2 22 2 rfl rfl (by omega) (by omega) (by omega) w2.drew (show w2.drew.cell? _ = _ from hx2.cell rfl) (show Byt w2.drew b off u from hB2)
  have h7 := hN 7 1 (by omega)
  have HM : Hid _ := hN
  clear hN
  go_region_held3 (fun w' => w'.cell? ⟨rb, 0, none⟩ = some (.int .i64 (le u 6 1 : Nat)) ∧ w'.cell? ⟨rb, 1, none⟩ = some (.int .i64 (le u 7 1 : Nat)) ∧ w'.cell? ⟨rb, 2, none⟩ = some (.int .i64 (le u 8 1 : Nat)) ∧ w'.cell? ⟨rb, 3, none⟩ = some (.int .i64 (le u 10 4 : Nat)) ∧ w'.cell? ⟨rb, 7, none⟩ = some (.int .i64 (le u 14 4 : Nat)) ∧ w'.cell? ⟨rb, 8, none⟩ = some (.int .i64 (le u 18 4 : Nat))) (go_keep)
    (first | (go_at_call 155; with_reducible refine K9.mono ?_; rintro e w' ⟨rfl, hw'⟩; obtain rfl := hw'.symm) | (go_at_call 155; with_reducible refine K22.mono ?_; rintro e w' ⟨rfl, hw'⟩; obtain rfl := hw'.symm))
  have hwr : IntKind.i64.wrap ((le u 7 1 : Nat) - 1 : Int) = (le u 7 1 : Nat) - 1 := IntWalk.i64_in _ (by omega)
  rw [hwr]
  clear hwr K9 K22 c0 c1 c2 c3 c7 c8
  have hA3 : But w.heap.size (· = rb) w _ := (hA2.alloc (by have := hA2.size; omega) (.cells (numsV u).toArray 224)).drew
  have hR3 : RdAt ((w2.alloc (.cells (numsV u).toArray 224)).drew) rb (r.nums u) := by
    have := RowAt.later hR2 (S := fun _ => False) ((But.refl w2.heap.size _ w2).alloc (Nat.le_refl _) (.cells (numsV u).toArray 224)) (RowAt.lt hR2) id
    exact this
  have hV3 : RowAt ((w2.alloc (.cells (numsV u).toArray 224)).drew) w2.heap.size (numsV u) 224 := RowAt.made w2 _ _
  unfold numsV at hA3 hR3 hV3
  obtain ⟨g, eg⟩ : ∃ g, w2.heap.size = g := ⟨_, rfl⟩
  rw [eg] at hV3 ⊢
  generalize (w2.alloc _).drew = w3 at hA3 hR3 hV3 ⊢
  clear hA2 hR2 hx2 hB2 eg
  have hrow : ∀ c, c < 8 → ∃ (p v : Nat) (lo hi : Int), (numsP u).drop c = (p, v, lo, hi) :: (numsP u).drop (c + 1) ∧ w3.cell? ⟨g, c * 4, none⟩ = some (.int .i64 (p : Int)) ∧ w3.cell? ⟨g, c * 4 + 1, none⟩ = some (.int .i64 (v : Int)) ∧ w3.cell? ⟨g, c * 4 + 2, none⟩ = some (.int .i64 lo) ∧ w3.cell? ⟨g, c * 4 + 3, none⟩ = some (.int .i64 hi) := by
    intro c hc
    match c, hc with
    | 0, _ => exact ⟨6, _, _, _, rfl, hV3.cell rfl, hV3.cell rfl, hV3.cell rfl, hV3.cell rfl⟩
    | 1, _ => exact ⟨7, _, _, _, rfl, hV3.cell rfl, hV3.cell rfl, hV3.cell rfl, hV3.cell rfl⟩
    | 2, _ => exact ⟨8, _, _, _, rfl, hV3.cell rfl, hV3.cell rfl, hV3.cell rfl, hV3.cell rfl⟩
    | 3, _ => exact ⟨9, _, _, _, rfl, hV3.cell rfl, hV3.cell rfl, hV3.cell rfl, hV3.cell rfl⟩
    | 4, _ => exact ⟨10, _, _, _, rfl, hV3.cell rfl, hV3.cell rfl, hV3.cell rfl, hV3.cell rfl⟩
    | 5, _ => exact ⟨14, _, _, _, rfl, hV3.cell rfl, hV3.cell rfl, hV3.cell rfl, hV3.cell rfl⟩
    | 6, _ => exact ⟨18, _, _, _, rfl, hV3.cell rfl, hV3.cell rfl, hV3.cell rfl, hV3.cell rfl⟩
    | 7, _ => exact ⟨22, _, _, _, rfl, hV3.cell rfl, hV3.cell rfl, hV3.cell rfl, hV3.cell rfl⟩
  have hg3 : g < w3.heap.size := hV3.lt
  clear hV3 h7 HM hu hct hbr
  go_wp2
  go_loopw [90] (fun vi wr => ∃ c : Nat, c ≤ 8 ∧ vi = .int .i64 (c : Int) ∧ Below w3.heap.size w3 wr ∧ Hid (numsE (numsP u) = numsE ((numsP u).drop c))) (fun i _ => 8 - (intOf i).toNat)
  case atStart => exact ⟨0, by omega, rfl, Below.refl _ _, rfl⟩
  case round =>
    obtain ⟨c, hc, rfl, hb, H⟩ := hrel
    by_cases hlt : c < 8
    · obtain ⟨p, v, lo, hi, e1, d0, d1, d2, d3⟩ := hrow c hlt
      have H2 : Hid (numsE (numsP u) = if (v : Int) < lo ∨ hi < (v : Int) then some p else numsE ((numsP u).drop (c + 1))) := by
        show _ = _
        rw [H.out, e1]; rfl
      rw [← hb.cell (p := ⟨g, c * 4, none⟩) hg3] at d0
      rw [← hb.cell (p := ⟨g, c * 4 + 1, none⟩) hg3] at d1
      rw [← hb.cell (p := ⟨g, c * 4 + 2, none⟩) hg3] at d2
      rw [← hb.cell (p := ⟨g, c * 4 + 3, none⟩) hg3] at d3
      clear hrow e1 H
      by_cases q1 : (v : Int) < lo
      · have HB : Hid (numsE (numsP u) = some p) := by show _ = _; rw [H2.out, if_pos (.inl q1)]
        go_wp2_with (first | (go_at_call 105; refine (at_any _ _ 1 p (by rfl) (by rfl) _).mono ?_; rintro q w5 ⟨v5, rfl, g1, g2⟩))
        go_ret
        have hb5 : Below w3.heap.size w3 w5 := (hb.alloc hb.size _).trans (g2.mono (by simp; have := hb.size; omega))
        obtain ⟨z1, z2⟩ := nums_kept hA3 hR3 hb5
        refine ⟨z1, z2, ?_⟩
        rw [HB.out]
        exact ⟨_, rfl, g1⟩
      · by_cases q2 : hi < (v : Int)
        · have HB : Hid (numsE (numsP u) = some p) := by show _ = _; rw [H2.out, if_pos (.inr q2)]
          go_wp2_with (first | (go_at_call 105; refine (at_any _ _ 1 p (by rfl) (by rfl) _).mono ?_; rintro q w5 ⟨v5, rfl, g1, g2⟩))
          go_ret
          have hb5 : Below w3.heap.size w3 w5 := (hb.alloc hb.size _).trans (g2.mono (by simp; have := hb.size; omega))
          obtain ⟨z1, z2⟩ := nums_kept hA3 hR3 hb5
          refine ⟨z1, z2, ?_⟩
          rw [HB.out]
          exact ⟨_, rfl, g1⟩
        · have HB : Hid (numsE (numsP u) = numsE ((numsP u).drop (c + 1))) := by
            show _ = _
            rw [H2.out, if_neg (by omega)]
          clear H2
          go_wp2
          go_roundw
          case rel => exact ⟨c + 1, by omega, by go_num, by first | exact hb.alloc hb.size _ | exact (hb.alloc hb.size _).setCell (by simp; have := hb.size; omega) _, HB⟩
          case measure => simp [intOf]; omega
    · obtain rfl : c = 8 := by omega
      have HB : Hid (numsE (numsP u) = none) := H
      clear hrow
      go_wp2
      go_ret
      obtain ⟨z1, z2⟩ := nums_kept hA3 hR3 hb
      refine ⟨z1, z2, ?_⟩
      rw [HB.out]
      exact rfl
end
end Go.Proofs.YtkpcmfgeanlcnaaDoor

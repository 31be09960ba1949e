/-
  Which columns fit: the document's answer and the program's: run alone.
-/
import Derived.Test.YtkpcmfgeanlcnaaSvJ
import Derived.Test.YtkpcmfgeanlcnaaSvC
import Derived.Test.YtkpcmfgeanlcnaaFit
namespace Go.Proofs.Ytkpcmfgeanlcnaa
open Go.RowKit Go.Deep

/-- Columns of any kind where they lie. -/
structure GC (w : World) (b o m : Nat) (ix : Nat → Int) (db : Nat → Option Addr) (dl dc : Nat → Nat) : Prop where
  lt : b < w.heap.size
  c0 : ∀ i, i < m → w.cell? ⟨b, o + i * 2, none⟩ = some (.int .i64 (ix i))
  c1 : ∀ i, i < m → w.cell? ⟨b, o + i * 2 + 1, none⟩ = some (.slice (db i) (dl i) (dc i))
theorem GC.below {w w' : World} {b o m B : Nat} {ix : Nat → Int} {db : Nat → Option Addr} {dl dc : Nat → Nat} (h : GC w b o m ix db dl dc) (hb : Below B w w') (hB : w.heap.size ≤ B) : GC w' b o m ix db dl dc :=
  ⟨Nat.lt_of_lt_of_le h.lt hb.size, fun i hi => (hb.cell (p := ⟨b, _, none⟩) (Nat.lt_of_lt_of_le h.lt hB)).trans (h.c0 i hi), fun i hi => (hb.cell (p := ⟨b, _, none⟩) (Nat.lt_of_lt_of_le h.lt hB)).trans (h.c1 i hi)⟩
/-- The first c of them may stand together. -/
def FitTo (n : Nat) (ix : Nat → Int) (dl : Nat → Nat) (c : Nat) : Prop := ∀ i, i < c → 0 ≤ ix i ∧ ix i < (n : Int) ∧ dl i = dl 0 ∧ ∀ j, j < i → ix j ≠ ix i
theorem FitTo.more {n : Nat} {ix : Nat → Int} {dl : Nat → Nat} {c : Nat} (h : FitTo n ix dl c) (h0 : 0 ≤ ix c) (h1 : ix c < (n : Int)) (h2 : dl c = dl 0) (h3 : ∀ j, j < c → ix j ≠ ix c) : FitTo n ix dl (c + 1) := fun i hi => by
  by_cases e : i = c
  · subst e
    exact ⟨h0, h1, h2, h3⟩
  · exact h i (by omega)
def FitPost (k n m : Nat) (ix : Nat → Int) (dl : Nat → Nat) (w : World) (e : Ending) (w' : World) : Prop := ∃ r : Bool, e = .returned (.bool r) ∧ (r = true ↔ (k ≤ m ∧ FitTo n ix dl m)) ∧ Below w.heap.size w w'
theorem fit_no {k n m : Nat} {ix : Nat → Int} {dl : Nat → Nat} {w w' : World} (h : ¬ (k ≤ m ∧ FitTo n ix dl m)) (hb : Below w.heap.size w w') : FitPost k n m ix dl w (.returned (.bool false)) w' := ⟨false, rfl, ⟨fun h' => (by cases h'), fun h' => absurd h' h⟩, hb⟩
theorem fit_yes {k n m : Nat} {ix : Nat → Int} {dl : Nat → Nat} {w w' : World} (h : k ≤ m ∧ FitTo n ix dl m) (hb : Below w.heap.size w w') : FitPost k n m ix dl w (.returned (.bool true)) w' := ⟨true, rfl, ⟨fun _ => h, fun _ => rfl⟩, hb⟩

set_option maxHeartbeats 4000000 in
set_option maxRecDepth 100000 in
theorem fitColumns_any (k n m cap b o : Nat) (bo : Option Addr) (ix : Nat → Int) (db : Nat → Option Addr) (dl dc : Nat → Nat) (w : World) (hk0 : 0 < k) (hm : m ≤ 9223372036854775806) (hbo : 0 < m → bo = some ⟨b, o, none⟩ ∧ GC w b o m ix db dl dc) :
    Calls Try.prog 25 #[.int .i64 ((k : Nat) : Int), .int .i64 ((n : Nat) : Int), .slice bo m cap] w fun e w' => FitPost k n m ix dl w e w' := by
  by_cases hkm : m < k
  · have hkm' : (m : Int) < (k : Int) := by omega
    go_enter Try.func25, Try.ntmps25
    go_wp2
    go_ret
    exact fit_no (fun h => by omega) (Below.refl _ _)
  · have hkm' : ¬ ((m : Int) < (k : Int)) := by omega
    obtain ⟨rfl, hG⟩ := hbo (by omega)
    clear hbo
    have hm0 : (0 : Int) < (m : Int) := by omega
    go_enter Try.func25, Try.ntmps25
    go_wp2
    go_loopw [7, 8] (fun vi _ wr => ∃ c : Nat, c ≤ m ∧ vi = .int .i64 ((c : Nat) : Int) ∧ FitTo n ix dl c ∧ Below w.heap.size w wr) (fun i _ _ => m - (intOf i).toNat)
    case atStart => exact ⟨0, by omega, rfl, fun i hi => absurd hi (by omega), Below.refl _ _⟩
    case round =>
      obtain ⟨c, hcm, rfl, hF, hb⟩ := hrel
      have hGr := hG.below hb (Nat.le_refl _)
      by_cases hlt : c < m
      · have hlt' : (c : Int) < (m : Int) := by omega
        have g0 := hGr.c0 c hlt
        have g1 := hGr.c1 c hlt
        have g2 := hGr.c1 0 (by omega)
        simp only [Nat.zero_mul, Nat.add_zero] at g2
        have bad : ¬ (0 ≤ ix c ∧ ix c < (n : Int) ∧ dl c = dl 0 ∧ ∀ j, j < c → ix j ≠ ix c) → ¬ (k ≤ m ∧ FitTo n ix dl m) := fun h1 h2 => h1 (h2.2 c hlt)
        by_cases x0 : ix c < 0
        · have hb1 := bad (fun h => by omega)
          have hd0 : decide (ix c < 0) = true := by simp; omega
          clear bad
          go_wp2_with fail
          go_big_quiet (fail)
          go_wp2
          go_ret
          exact fit_no hb1 ⟨hb.os, hb.tape, hb.output, hb.size, hb.block⟩
        · by_cases x1 : (n : Int) ≤ ix c
          · have hb1 := bad (fun h => by omega)
            have hd0 : decide (ix c < 0) = false := by simp; omega
            have hd1 : decide ((n : Int) ≤ ix c) = true := by simp; omega
            clear bad
            go_wp2_with fail
            go_big_quiet (fail)
            go_wp2
            go_ret
            exact fit_no hb1 ⟨hb.os, hb.tape, hb.output, hb.size, hb.block⟩
          · by_cases x2 : dl c = dl 0
            · have hd0 : decide (ix c < 0) = false := by simp; omega
              have hd1 : decide ((n : Int) ≤ ix c) = false := by simp; omega
              clear g2
              rw [x2] at g1
              have g2 := hGr.c1 0 (by omega)
              simp only [Nat.zero_mul, Nat.add_zero] at g2
              go_wp2_with fail
              go_big_quiet (fail)
              have hbq : Below w.heap.size w (wr.drewN nq) := ⟨hb.os, hb.tape, hb.output, hb.size, hb.block⟩
              generalize wr.drewN nq = wq at hbq ⊢
              clear g0 g1 g2 hGr
              go_wp2
              go_loopw [8] (fun vj wz => ∃ j : Nat, j ≤ c ∧ vj = .int .i64 ((j : Nat) : Int) ∧ (∀ t, t < j → ix t ≠ ix c) ∧ Below w.heap.size w wz) (fun i _ => c - (intOf i).toNat)
              case atStart => exact ⟨0, by omega, rfl, fun t ht => absurd ht (by omega), hbq⟩
              case round =>
                clear hbq
                obtain ⟨j, hjc, rfl, hne, hbz⟩ := hrel
                have hGz := hG.below hbz (Nat.le_refl _)
                by_cases hj : j < c
                · have hj' : (j : Int) < (c : Int) := by omega
                  have hjm : (j : Int) < (m : Int) := by omega
                  have g0 := hGz.c0 c hlt
                  have g1 := hGz.c0 j (by omega)
                  by_cases he : ix j = ix c
                  · have hb1 := bad (fun h => h.2.2.2 j hj he)
                    have he' : (ix j == ix c) = true := by simp [he]
                    clear bad
                    go_wp2_with fail
                    go_big_quiet (fail)
                    go_wp2
                    go_ret
                    exact fit_no hb1 ⟨hbz.os, hbz.tape, hbz.output, hbz.size, hbz.block⟩
                  · have he' : (ix j == ix c) = false := by simp [he]
                    go_wp2_with fail
                    go_big_quiet (fail)
                    have hbq : Below w.heap.size w (wr.drewN nq) := ⟨hbz.os, hbz.tape, hbz.output, hbz.size, hbz.block⟩
                    generalize wr.drewN nq = wq at hbq ⊢
                    go_wp2
                    go_roundw
                    case rel =>
                      refine ⟨j + 1, by omega, by go_num, fun t ht => ?_, hbq⟩
                      by_cases e : t = j
                      · rw [e]; exact he
                      · exact hne t (by omega)
                    case measure => simp [intOf]; omega
                · obtain rfl : j = c := by omega
                  have hnl : ¬ ((j : Int) < (j : Int)) := by omega
                  have hF2 := hF.more (by omega) (by omega) x2 hne
                  go_wp2
                  go_roundw
                  case rel => exact ⟨j + 1, by omega, by go_num, hF2, hbz⟩
                  case measure => simp [intOf]; omega
            · have hb1 := bad (fun h => x2 h.2.2.1)
              have hd0 : decide (ix c < 0) = false := by simp; omega
              have hd1 : decide ((n : Int) ≤ ix c) = false := by simp; omega
              have hx2 : (((dl c : Nat) : Int) == ((dl 0 : Nat) : Int)) = false := by simp; omega
              have hx3 : (dl c == dl 0) = false := by simp; omega
              clear bad
              go_wp2_with fail
              go_big_quiet (fail)
              go_wp2
              go_ret
              exact fit_no hb1 ⟨hb.os, hb.tape, hb.output, hb.size, hb.block⟩
      · obtain rfl : c = m := by omega
        have hnl : ¬ ((c : Int) < (c : Int)) := by omega
        go_wp2
        go_ret
        exact fit_yes ⟨by omega, hF⟩ hb

set_option maxHeartbeats 8000000 in
set_option maxRecDepth 100000 in
theorem columnsFit_all (k n m cap b o : Nat) (bo : Option Addr) (ix : Nat → Int) (db : Nat → Option Addr) (dl dc : Nat → Nat) (w : World) (hk0 : 0 < k) (hn : n ≤ 128) (hm : m ≤ 9223372036854775806) (hbo : 0 < m → bo = some ⟨b, o, none⟩ ∧ GC w b o m ix db dl dc) :
    Calls Try.prog 30 #[.int .i64 ((k : Nat) : Int), .int .i64 ((n : Nat) : Int), .slice bo m cap] w fun e w' => FitPost k n m ix dl w e w' := by
  by_cases hkm : m < k
  · have hkm' : (m : Int) < (k : Int) := by omega
    go_enter Try.func30, Try.ntmps30
    go_wp2
    go_ret
    exact fit_no (fun h => by omega) (Below.refl _ _)
  · have hkm' : ¬ ((m : Int) < (k : Int)) := by omega
    obtain ⟨rfl, hG⟩ := hbo (by omega)
    clear hbo
    have hm0 : (0 : Int) < (m : Int) := by omega
    have h0 : (w.alloc (.cells Try.zeroCells57 57)).rowIs w.heap.size 57 128 (fun _ => .bool false) := by
      rw [zero128]
      exact World.rowIs_made w (.bool false) 128 57
    have hb0 : Below w.heap.size w (w.alloc (.cells Try.zeroCells57 57)) := (Below.refl _ _).alloc (Nat.le_refl _) _
    have hs0 : w.heap.size < (w.alloc (.cells Try.zeroCells57 57)).heap.size := by simp
    go_enter Try.func30, Try.ntmps30
    go_wp2
    generalize w.alloc (.cells Try.zeroCells57 57) = w0 at h0 hb0 hs0 ⊢
    go_loopw [16] (fun vi wr => ∃ c : Nat, c ≤ m ∧ vi = .int .i64 (c : Int) ∧ (∃ sn : Nat → Bool, wr.rowIs w.heap.size 57 128 (fun t => .bool (sn t)) ∧ ∀ t, sn t = true ↔ ∃ i, i < c ∧ ix i = ((t : Nat) : Int)) ∧ FitTo n ix dl c ∧ Below w.heap.size w wr) (fun i _ => m - (intOf i).toNat)
    case atStart => exact ⟨0, by omega, rfl, ⟨fun _ => false, h0, fun _ => ⟨fun h => (by cases h), fun ⟨i, h, _⟩ => absurd h (by omega)⟩⟩, fun i hi => absurd hi (by omega), hb0⟩
    case round =>
      clear h0 hb0 hs0
      obtain ⟨c, hcc, rfl, ⟨sn, hsn, hse⟩, hF, hbe⟩ := hrel
      by_cases hlt : c < m
      · have hlt' : (c : Int) < (m : Int) := by omega
        have hcw := hG.below hbe (Nat.le_refl _)
        have g0 := hcw.c0 c hlt
        have g1 := hcw.c1 c hlt
        have bad : ¬ (0 ≤ ix c ∧ ix c < (n : Int) ∧ dl c = dl 0 ∧ ∀ j, j < c → ix j ≠ ix c) → ¬ (k ≤ m ∧ FitTo n ix dl m) := fun h1 h2 => h1 (h2.2 c hlt)
        have sn1 := hsn.alloc (.cells #[.int .i64 (ix c), .slice (db c) (dl c) (dc c)] 43)
        have be1 := hbe.alloc hbe.size (.cells #[.int .i64 (ix c), .slice (db c) (dl c) (dc c)] 43)
        have cw1 := hG.below be1 (Nat.le_refl _)
        have d1 := cw1.c1 0 (by omega)
        simp only [Nat.zero_mul, Nat.add_zero] at d1
        have n0 : (wr.alloc (.cells #[.int .i64 (ix c), .slice (db c) (dl c) (dc c)] 43)).rowIs wr.heap.size 43 2 (fun j => if j = 0 then .int .i64 (ix c) else .slice (db c) (dl c) (dc c)) :=
            World.rowIs_alloc wr #[.int .i64 (ix c), .slice (db c) (dl c) (dc c)] 43 _ (fun i hi => by
              have : i = 0 ∨ i = 1 := by simp at hi; omega
              rcases this with rfl | rfl <;> rfl)
        generalize hW1 : wr.alloc (.cells #[.int .i64 (ix c), .slice (db c) (dl c) (dc c)] 43) = W1 at sn1 be1 n0 d1
        have a0 := n0.cell (i := 0) (by omega)
        have a1 := n0.cell (i := 1) (by omega)
        simp only [if_true, Nat.one_ne_zero, if_false] at a0 a1
        clear hsn hbe hcw cw1
        by_cases x0 : ix c < 0
        · have hb1 := bad (fun h => by omega)
          have hd0 : decide (ix c < 0) = true := by simp; omega
          clear bad sn1
          go_wp2_with fail
          go_big_quiet (fail)
          go_wp2
          go_ret
          exact fit_no hb1 ⟨be1.os, be1.tape, be1.output, be1.size, be1.block⟩
        · have hd0 : decide (ix c < 0) = false := by simp; omega
          by_cases x1 : (n : Int) ≤ ix c
          · have hb1 := bad (fun h => by omega)
            have hd1 : decide ((n : Int) ≤ ix c) = true := by simp; omega
            clear bad sn1
            go_wp2_with fail
            go_big_quiet (fail)
            go_wp2
            go_ret
            exact fit_no hb1 ⟨be1.os, be1.tape, be1.output, be1.size, be1.block⟩
          · obtain ⟨x, hx⟩ : ∃ x : Nat, ix c = (x : Int) := ⟨(ix c).toNat, by omega⟩
            have hx128 : x < 128 := by omega
            have hxn : ¬ n ≤ x := by omega
            have s0 := sn1.cell (i := x) (by omega)
            have sf0 := sn1.frozen x
            rw [hx] at g0 a0 hW1 hd0
            have hd1 : decide ((n : Int) ≤ ((x : Nat) : Int)) = false := by simp; omega
            have hd2 : decide (n ≤ x) = false := by simp; omega
            by_cases x3 : sn x = true
            · have hb1 := bad (fun h => by
                obtain ⟨i, h1, h2⟩ := (hse x).1 x3
                exact h.2.2.2 i h1 (h2.trans hx.symm))
              rw [x3] at s0
              clear bad sn1 sf0
              go_wp2_with fail
              go_big_quiet (fail)
              go_wp2
              go_ret
              exact fit_no hb1 ⟨be1.os, be1.tape, be1.output, be1.size, be1.block⟩
            · have x3' : sn x = false := by simpa using x3
              rw [x3'] at s0
              by_cases x2 : dl c = dl 0
              · have sn2 := (sn1.set x (.bool true)).congr (g := fun t => .bool (if t = x then true else sn t)) (fun t _ => by
                  by_cases e : t = x
                  · simp [e]
                  · simp [e])
                have be2 := be1.setCell (p := ⟨w.heap.size, x, none⟩) (Nat.le_refl _) (.bool true)
                have hF2 := hF.more (by omega) (by omega) x2 (fun j hj e => x3 ((hse x).2 ⟨j, hj, e.trans hx⟩))
                have hse2 : ∀ t, (if t = x then true else sn t) = true ↔ ∃ i, i < c + 1 ∧ ix i = ((t : Nat) : Int) := fun t => by
                  by_cases e : t = x
                  · subst e
                    simp only [if_true]
                    exact ⟨fun _ => ⟨c, by omega, hx⟩, fun _ => trivial⟩
                  · rw [if_neg e, hse t]
                    constructor
                    · rintro ⟨i, h1, h2⟩
                      exact ⟨i, by omega, h2⟩
                    · rintro ⟨i, h1, h2⟩
                      by_cases ei : i = c
                      · rw [ei, hx] at h2
                        omega
                      · exact ⟨i, by omega, h2⟩
                rw [x2] at g1 a1 hW1
                clear sn1 be1 hse bad x0 x1 x3 x3' hx
                go_wp2_with fail
                go_big_quiet (fail)
                have a0' : (W1.drewN nq).cell? ⟨wr.heap.size, 0, none⟩ = some (.int .i64 ((x : Nat) : Int)) := a0
                have s0' : (W1.drewN nq).cell? ⟨w.heap.size, x, none⟩ = some (.bool false) := s0
                have sf0' : (W1.drewN nq).frozen? ⟨w.heap.size, x, none⟩ = false := sf0
                have sn3 : ((W1.drewN nq).setCell ⟨w.heap.size, x, none⟩ (.bool true)).rowIs w.heap.size 57 128 (fun t => .bool (if t = x then true else sn t)) := sn2.of_block rfl
                have be3 : Below w.heap.size w ((W1.drewN nq).setCell ⟨w.heap.size, x, none⟩ (.bool true)) := ⟨be2.os, be2.tape, be2.output, be2.size, be2.block⟩
                generalize W1.drewN nq = W2 at a0' s0' sf0' sn3 be3 ⊢
                clear a0 a1 s0 sf0 sn2 be2 d1 g0 g1 n0
                go_wp2
                go_roundw
                case rel => exact ⟨c + 1, by omega, by go_num, ⟨_, sn3, hse2⟩, hF2, be3⟩
                case measure => simp [intOf]; omega
              · have hb1 := bad (fun h => x2 h.2.2.1)
                have hx2 : (((dl c : Nat) : Int) == ((dl 0 : Nat) : Int)) = false := by simp; omega
                have hx3 : (dl c == dl 0) = false := by simp; omega
                clear bad sn1 sf0
                go_wp2_with fail
                go_big_quiet (fail)
                go_wp2
                go_ret
                exact fit_no hb1 ⟨be1.os, be1.tape, be1.output, be1.size, be1.block⟩
      · obtain rfl : c = m := by omega
        have hnl : ¬ ((c : Int) < (c : Int)) := by omega
        go_wp2
        go_ret
        exact fit_yes ⟨by omega, hF⟩ hbe
end Go.Proofs.Ytkpcmfgeanlcnaa

/-
  Rebuild where it is refused: the program's answer, the document's, the statement's: run alone.
-/
namespace Go.Proofs.Ytkpcmfgeanlcnaa
open Go.RowKit Go.Deep

set_option maxHeartbeats 400000 in
set_option maxRecDepth 100000 in
theorem creb_no1 (k n : Int) (vc : Value) (h : fitB k n = false) (w : World) :
    Calls Try.prog 18 #[.int .i64 k, .int .i64 n, vc] w fun e w' => e = .returned (.tuple #[.slice none 0 0, .int .i64 1]) ∧ w' = w := by
  go_enter Try.func18, Try.ntmps18
  go_wp2_with (go_at_call 28; refine (partsFit_any _ _ _).mono ?_; rintro e w' ⟨rfl, hw'⟩; obtain rfl := hw'.symm)
  go_ret2
  exact ⟨rfl, rfl⟩
set_option maxHeartbeats 400000 in
set_option maxRecDepth 100000 in
theorem reb_no1 (k n : Int) (vc : Value) (h : fitB k n = false) (w : World) :
    Calls Try.prog 13 #[.int .i64 k, .int .i64 n, vc] w fun e w' => e = .returned (.tuple #[.slice none 0 0, .bool true]) ∧ Below w.heap.size w w' := by
  go_enter Try.func13, Try.ntmps13
  go_wp2_with (first | (go_at_call 18; refine (creb_no1 _ _ _ h _).mono ?_; rintro e w' ⟨rfl, hw'⟩; obtain rfl := hw'.symm) | (go_at_call 21; refine (proper_any _ _ _).mono ?_; rintro e w' ⟨rfl, hw'⟩; obtain rfl := hw'.symm) | (go_at_call 22; refine (num_any _ _).mono ?_; rintro e w' ⟨rfl, hw'⟩; obtain rfl := hw'.symm))
  go_ret2
  exact ⟨rfl, Below.refl _ _⟩

set_option maxHeartbeats 400000 in
set_option maxRecDepth 100000 in
theorem rebs_of {vk vn vc : Value} {w : World} (h : Calls Try.prog 13 #[vk, vn, vc] w fun e w' => e = .returned (.tuple #[.slice none 0 0, .bool true]) ∧ Below w.heap.size w w') :
    Calls Try.prog 5 #[vk, vn, vc] w fun e w' => e = .returned (.bool true) ∧ Below w.heap.size w w' := by
  go_enter Try.func5, Try.ntmps5
  go_wp2_with (go_at_call 13; refine h.mono ?_; rintro e w' ⟨rfl, hb⟩)
  go_ret
  exact ⟨rfl, by assumption⟩

section
variable (k n m cap b o : Nat) (bo : Option Addr) (ix : Nat → Int) (db : Nat → Option Addr) (dl dc : Nat → Nat) (w : World) (hk0 : 0 < k) (hkn : k ≤ n) (hn : n ≤ 128) (hm : m ≤ 9223372036854775806) (hbo : 0 < m → bo = some ⟨b, o, none⟩ ∧ GC w b o m ix db dl dc) (hno : ¬ (k ≤ m ∧ FitTo n ix dl m))
include hk0 hkn hn hm hbo hno
set_option maxHeartbeats 400000 in
set_option maxRecDepth 100000 in
theorem creb_no2 : Calls Try.prog 18 #[.int .i64 ((k : Nat) : Int), .int .i64 ((n : Nat) : Int), .slice bo m cap] w fun e w' => e = .returned (.tuple #[.slice none 0 0, .int .i64 15]) ∧ Below w.heap.size w w' := by
  have h : fitB k n = true := fitB_yes (by omega) (by omega) (by omega)
  have c2 := columnsFit_all k n m cap b o bo ix db dl dc w hk0 hn hm hbo
  go_enter Try.func18, Try.ntmps18
  go_wp2_with (first | (go_at_call 28; refine (partsFit_any _ _ _).mono ?_; rintro e w' ⟨rfl, hw'⟩; obtain rfl := hw'.symm) | (go_at_call 30; refine c2.mono ?_; rintro e w1 ⟨r, rfl, hr, hb⟩; (obtain rfl : r = false := by cases r <;> simp_all)))
  go_ret2
  exact ⟨rfl, by assumption⟩
set_option maxHeartbeats 400000 in
set_option maxRecDepth 100000 in
theorem reb_no2 : Calls Try.prog 13 #[.int .i64 ((k : Nat) : Int), .int .i64 ((n : Nat) : Int), .slice bo m cap] w fun e w' => e = .returned (.tuple #[.slice none 0 0, .bool true]) ∧ Below w.heap.size w w' := by
  have h : fitB k n = true := fitB_yes (by omega) (by omega) (by omega)
  have c1 := creb_no2 k n m cap b o bo ix db dl dc w hk0 hkn hn hm hbo hno
  have c2 := fun w1 (hb : Below w.heap.size w w1) => fitColumns_any k n m cap b o bo ix db dl dc w1 hk0 hm (fun h => ⟨(hbo h).1, (hbo h).2.below hb (Nat.le_refl _)⟩)
  clear hbo
  go_enter Try.func13, Try.ntmps13
  go_wp2_with (first | (go_at_call 18; refine c1.mono ?_; rintro e w1 ⟨rfl, hb1⟩) | (go_at_call 21; refine (proper_any _ _ _).mono ?_; rintro e w' ⟨rfl, hw'⟩; obtain rfl := hw'.symm) | (go_at_call 25; refine (c2 _ (by assumption)).mono ?_; rintro e w2 ⟨r, rfl, hr, hb2⟩; (obtain rfl : r = false := by cases r <;> simp_all)) | (go_at_call 22; refine (num_any _ _).mono ?_; rintro e w' ⟨rfl, hw'⟩; obtain rfl := hw'.symm))
  go_ret2
  have hb1 : Below w.heap.size w w1 := by assumption
  have hb2 : Below w1.heap.size w1 w2 := by assumption
  exact ⟨rfl, hb1.trans (hb2.mono hb1.size)⟩
end
end Go.Proofs.Ytkpcmfgeanlcnaa

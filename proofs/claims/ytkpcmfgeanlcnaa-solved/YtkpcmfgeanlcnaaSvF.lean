/-
  Rows of bytes in memory; one place is made 0 in each row but one: run alone.
-/
import Derived.Test.YtkpcmfgeanlcnaaSvE
import Derived.Deep.RegionHeld3
namespace Go.Proofs.Ytkpcmfgeanlcnaa
open Go.RowKit Go.Deep

/-- k rows of k bytes. -/
structure Mat (w : World) (h k : Nat) (bl : Nat → Nat) (A : Nat → Nat → F) : Prop where
  head : w.rowIs h 41 k (fun i => .slice (some ⟨bl i, 0, none⟩) k k)
  rows : ∀ i, i < k → w.rowIs (bl i) 5 k (fv (A i))
  inj : ∀ i j, i < k → j < k → i ≠ j → bl i ≠ bl j
  sep : ∀ i, i < k → bl i ≠ h
theorem Mat.congr {w : World} {h k : Nat} {bl : Nat → Nat} {A A' : Nat → Nat → F} (m : Mat w h k bl A) (e : ∀ i j, i < k → j < k → A i j = A' i j) : Mat w h k bl A' :=
  ⟨m.head, fun i hi => (m.rows i hi).congr fun j hj => by simp only [fv, e i j hi hj], m.inj, m.sep⟩
theorem Mat.heap {w w' : World} {h k : Nat} {bl : Nat → Nat} {A : Nat → Nat → F} (m : Mat w h k bl A) (e : w'.heap = w.heap) : Mat w' h k bl A :=
  ⟨m.head.of_block (by rw [e]), fun i hi => (m.rows i hi).of_block (by rw [e]), m.inj, m.sep⟩
/-- One row has turned. -/
theorem Mat.turn {w w' : World} {h k c : Nat} {bl : Nat → Nat} {A : Nat → Nat → F} {r : Nat → F} (m : Mat w h k bl A) (hc : c < k) (ho : Oth (· = bl c) w w') (hr : w'.rowIs (bl c) 5 k (fv r)) : Mat w' h k bl (fun i => if i = c then r else A i) := by
  refine ⟨ho.row m.head.lt (fun e => m.sep c hc e.symm) m.head, fun i hi => ?_, m.inj, m.sep⟩
  by_cases e : i = c
  · subst e
    simp only [if_true]
    exact hr
  · simp only [if_neg e]
    exact ho.row (m.rows i hi).lt (fun x => m.inj i c hi hc e x) (m.rows i hi)
/-- Rows elsewhere. -/
theorem Mat.oth {w w' : World} {h k : Nat} {bl : Nat → Nat} {A : Nat → Nat → F} {S : Nat → Prop} (m : Mat w h k bl A) (ho : Oth S w w') (hh : ¬ S h) (hb : ∀ i, i < k → ¬ S (bl i)) : Mat w' h k bl A :=
  ⟨ho.row m.head.lt hh m.head, fun i hi => ho.row (m.rows i hi).lt (hb i hi) (m.rows i hi), m.inj, m.sep⟩

/-- Two such lists apart. -/
structure Apart (k h1 h2 : Nat) (b1 b2 : Nat → Nat) : Prop where
  rr : ∀ i j, i < k → j < k → b1 i ≠ b2 j
  hr : ∀ i, i < k → h1 ≠ b2 i ∧ h2 ≠ b1 i
  hh : h1 ≠ h2

/-- Place t is 0 in the rows below c but row t. -/
def clr (A X : Nat → Nat → F) (t c i : Nat) : Nat → F := if i < c ∧ i ≠ t then F.added (A i t) (X i) (X t) else X i
theorem clr_zero (A X : Nat → Nat → F) (t : Nat) : clr A X t 0 = X := by
  funext i
  rw [clr, if_neg (by omega)]
theorem clr_t (A X : Nat → Nat → F) (t c : Nat) : clr A X t c t = X t := by rw [clr, if_neg (by omega)]
theorem clr_c (A X : Nat → Nat → F) (t c : Nat) : clr A X t c c = X c := by rw [clr, if_neg (by omega)]
theorem clr_skip (A X : Nat → Nat → F) (t : Nat) : clr A X t (t + 1) = clr A X t t := by
  funext i
  unfold clr
  by_cases h : i < t
  · rw [if_pos (by omega), if_pos (by omega)]
  · rw [if_neg (by omega), if_neg (by omega)]
theorem clr_succ (A X : Nat → Nat → F) {t c : Nat} (h : c ≠ t) : (fun i => if i = c then F.added (A c t) (X c) (X t) else clr A X t c i) = clr A X t (c + 1) := by
  funext i
  unfold clr
  by_cases e : i = c
  · subst e
    rw [if_pos rfl, if_pos (by omega)]
  · rw [if_neg e]
    by_cases h1 : i < c ∧ i ≠ t
    · rw [if_pos h1, if_pos (by omega)]
    · rw [if_neg h1, if_neg (by omega)]

def OwnB2 (k : Nat) (b1 b2 : Nat → Nat) (x : Nat) : Prop := ∃ i, i < k ∧ (x = b1 i ∨ x = b2 i)

set_option maxHeartbeats 4000000 in
set_option maxRecDepth 100000 in
theorem clearPlace_any (k h1 h2 t : Nat) (b1 b2 : Nat → Nat) (A B : Nat → Nat → F) (w : World) (hk : k ≤ 128) (ht : t < k) (hA : Mat w h1 k b1 A) (hB : Mat w h2 k b2 B) (hap : Apart k h1 h2 b1 b2) :
    Calls Try.prog 45 #[.slice (some ⟨h1, 0, none⟩) k k, .slice (some ⟨h2, 0, none⟩) k k, .int .i64 (t : Int)] w fun e w' => e = .returned (.tuple #[]) ∧ Mat w' h1 k b1 (clr A A t k) ∧ Mat w' h2 k b2 (clr A B t k) ∧ Oth (OwnB2 k b1 b2) w w' := by
  go_enter Try.func45, Try.ntmps45
  go_wp2
  go_loopw [10] (fun vi wr => ∃ c : Nat, c ≤ k ∧ vi = .int .i64 (c : Int) ∧ Mat wr h1 k b1 (clr A A t c) ∧ Mat wr h2 k b2 (clr A B t c) ∧ Oth (OwnB2 k b1 b2) w wr) (fun i _ => k - (intOf i).toNat)
  case atStart => exact ⟨0, by omega, rfl, by rw [clr_zero]; exact hA, by rw [clr_zero]; exact hB, Oth.refl _ _⟩
  case round =>
    clear hA hB
    obtain ⟨c, hc, rfl, hA, hB, hO⟩ := hrel
    by_cases hlt : c < k
    · have hlt' : (c : Int) < (k : Int) := by omega
      by_cases hct : c = t
      · subst hct
        have hA2 := hA
        have hB2 := hB
        rw [← clr_skip] at hA2 hB2
        clear hA hB
        go_wp2
        go_roundw
        case rel => exact ⟨c + 1, by omega, by go_num, hA2, hB2, hO⟩
        case measure => simp [intOf]; omega
      · have hct' : ((c : Int) == (t : Int)) = false := by simp; omega
        have g1 : wr.cell? ⟨h1, c, none⟩ = some (.slice (some ⟨b1 c, 0, none⟩) k k) := hA.head.cell hlt
        have g2 : wr.cell? ⟨h1, t, none⟩ = some (.slice (some ⟨b1 t, 0, none⟩) k k) := hA.head.cell ht
        have g3 : wr.cell? ⟨h2, c, none⟩ = some (.slice (some ⟨b2 c, 0, none⟩) k k) := hB.head.cell hlt
        have g4 : wr.cell? ⟨h2, t, none⟩ = some (.slice (some ⟨b2 t, 0, none⟩) k k) := hB.head.cell ht
        have g5 : wr.cell? ⟨b1 c, t, none⟩ = some (.int .u8 ((A c t).val : Int)) := by
          have := (hA.rows c hlt).cell ht
          rw [clr_c] at this
          exact this
        have r1 := hA.rows c hlt
        have r2 := hA.rows t ht
        have r3 := hB.rows c hlt
        have r4 := hB.rows t ht
        rw [clr_c] at r1 r3
        rw [clr_t] at r2 r4
        have K1 : ∀ w0 : World, w0.heap = wr.heap → w0.os = wr.os → w0.tape = wr.tape → w0.output = wr.output → Calls Try.prog 59 #[.slice (some ⟨b1 c, 0, none⟩) k k, .int .u8 ((A c t).val : Int), .slice (some ⟨b1 t, 0, none⟩) k k] w0 fun e w' => e = .returned (.tuple #[]) ∧ Mat w' h1 k b1 (clr A A t (c + 1)) ∧ Mat w' h2 k b2 (clr A B t c) ∧ Oth (OwnB2 k b1 b2) w w' ∧ (w'.cell? ⟨h1, c, none⟩ = some (.slice (some ⟨b1 c, 0, none⟩) k k) ∧ w'.cell? ⟨h1, t, none⟩ = some (.slice (some ⟨b1 t, 0, none⟩) k k) ∧ w'.cell? ⟨h2, c, none⟩ = some (.slice (some ⟨b2 c, 0, none⟩) k k) ∧ w'.cell? ⟨h2, t, none⟩ = some (.slice (some ⟨b2 t, 0, none⟩) k k)) := fun w0 e e1 e2 e3 => by
          have m1 := hA.heap e
          have m2 := hB.heap e
          refine (addTimes_any (b1 c) (b1 t) k k k (A c) (A t) (A c t) w0 hk (r1.of_block (by rw [e])) (r2.of_block (by rw [e])) (by rw [e]; exact r1.lt) (by rw [e]; exact r2.lt) (hA.inj t c ht hlt (fun e => hct e.symm))).mono ?_
          rintro q w' ⟨rfl, h, ho⟩
          have n1 := m1.turn hlt ho h
          rw [clr_succ A A hct] at n1
          have n2 := m2.oth ho (fun x => (hap.hr c hlt).2 x) (fun i hi x => hap.rr c i hlt hi x.symm)
          refine ⟨rfl, n1, n2, ?_, n1.head.cell hlt, n1.head.cell ht, n2.head.cell hlt, n2.head.cell ht⟩
          · exact (Oth.mk (S := OwnB2 k b1 b2) (e1.trans hO.os) (e2.trans hO.tape) (e3.trans hO.output) (by rw [e]; exact hO.size) (fun j hj hn => by rw [e]; exact hO.block j hj hn)).trans ho fun j _ x => ⟨c, hlt, .inl x⟩
        have K2 : ∀ w0 w1 : World, w0.heap = w1.heap → w0.os = w1.os → w0.tape = w1.tape → w0.output = w1.output → Mat w1 h1 k b1 (clr A A t (c + 1)) → Mat w1 h2 k b2 (clr A B t c) → Oth (OwnB2 k b1 b2) w w1 → Calls Try.prog 59 #[.slice (some ⟨b2 c, 0, none⟩) k k, .int .u8 ((A c t).val : Int), .slice (some ⟨b2 t, 0, none⟩) k k] w0 fun e w' => e = .returned (.tuple #[]) ∧ Mat w' h1 k b1 (clr A A t (c + 1)) ∧ Mat w' h2 k b2 (clr A B t (c + 1)) ∧ Oth (OwnB2 k b1 b2) w w' ∧ (w'.cell? ⟨h1, c, none⟩ = some (.slice (some ⟨b1 c, 0, none⟩) k k) ∧ w'.cell? ⟨h1, t, none⟩ = some (.slice (some ⟨b1 t, 0, none⟩) k k) ∧ w'.cell? ⟨h2, c, none⟩ = some (.slice (some ⟨b2 c, 0, none⟩) k k) ∧ w'.cell? ⟨h2, t, none⟩ = some (.slice (some ⟨b2 t, 0, none⟩) k k)) := fun w0 w1 e e1 e2 e3 hA hB hO => by
          have m1 := hA.heap e
          have m2 := hB.heap e
          have r3 := m2.rows c hlt
          have r4 := m2.rows t ht
          rw [clr_c] at r3
          rw [clr_t] at r4
          refine (addTimes_any (b2 c) (b2 t) k k k (B c) (B t) (A c t) w0 hk r3 r4 r3.lt r4.lt (hB.inj t c ht hlt (fun e => hct e.symm))).mono ?_
          rintro q w' ⟨rfl, h, ho⟩
          have n1 := m2.turn hlt ho h
          rw [clr_succ A B hct] at n1
          have n2 := m1.oth ho (fun x => (hap.hr c hlt).1 x) (fun i hi x => hap.rr i c hi hlt x)
          refine ⟨rfl, n2, n1, ?_, n2.head.cell hlt, n2.head.cell ht, n1.head.cell hlt, n1.head.cell ht⟩
          · exact (Oth.mk (S := OwnB2 k b1 b2) (e1.trans hO.os) (e2.trans hO.tape) (e3.trans hO.output) (by rw [e]; exact hO.size) (fun j hj hn => by rw [e]; exact hO.block j hj hn)).trans ho fun j _ x => ⟨c, hlt, .inr x⟩
        clear r1 r2 r3 r4 hA hB
        generalize (A c t).val = fac at *
        generalize b1 c = b1c at *
        generalize b1 t = b1t at *
        generalize b2 c = b2c at *
        generalize b2 t = b2t at *
        go_wp2
        go_region_held3 (fun w' => w'.cell? ⟨h1, c, none⟩ = some (.slice (some ⟨b1c, 0, none⟩) k k) ∧ w'.cell? ⟨h1, t, none⟩ = some (.slice (some ⟨b1t, 0, none⟩) k k)) (go_keep)
          ((first
            | (go_at_call 59; refine (K1 _ (by rfl) (by rfl) (by rfl) (by rfl)).mono ?_; rintro q w2 ⟨rfl, hA2, hB2, hO2, d1, d2, d3, d4⟩)))
        have K3 := fun w0 e e1 e2 e3 => K2 w0 w2 e e1 e2 e3 hA2 hB2 hO2
        clear K1 K2 hA2 hB2 hO2
        go_wp2
        go_region_held3 (fun w' => w'.cell? ⟨h2, c, none⟩ = some (.slice (some ⟨b2c, 0, none⟩) k k) ∧ w'.cell? ⟨h2, t, none⟩ = some (.slice (some ⟨b2t, 0, none⟩) k k)) (go_keep)
          ((first
            | (go_at_call 59; refine (K3 _ (by rfl) (by rfl) (by rfl) (by rfl)).mono ?_; rintro q w3 ⟨rfl, hA2, hB2, hO2, d1, d2, d3, d4⟩)))
        have hA3 : Mat w3 h1 k b1 (clr A A t (c + 1)) := by assumption
        have hB3 : Mat w3 h2 k b2 (clr A B t (c + 1)) := by assumption
        have hO3 : Oth (OwnB2 k b1 b2) w w3 := by assumption
        go_wp2
        go_roundw
        case rel => exact ⟨c + 1, by omega, by go_num, hA3, hB3, hO3⟩
        case measure => simp [intOf]; omega
    · obtain rfl : c = k := by omega
      have hnl : ¬ ((c : Int) < (c : Int)) := by omega
      go_wp2
      go_end0
      exact ⟨rfl, hA, hB, hO⟩
end Go.Proofs.Ytkpcmfgeanlcnaa

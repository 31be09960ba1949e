/-
  Rows of bytes in memory; one place is made 0 in each row but one: run alone.
-/
import Derived.Test.YtlghjjennhpjeaaGreatDoorSvE
import Derived.Deep.RegionHeld3
import Derived.Laws.Rows
import Derived.KernelRfl
import Derived.Laws.OwnMore
import Derived.Deep.AppendLies
namespace Go.Proofs.YtlghjjennhpjeaaGreatDoor
open Go.RowKit Go.Deep

/-- k rows of k bytes. -/
structure Mat (w : World) (h k : Nat) (bl : Nat → Nat) (A : Nat → Nat → F) : Prop where
  head : w.rowIs h 24 k (fun i => .slice (some ⟨bl i, 0, none⟩) k k)
  rows : ∀ i, i < k → w.rowIs (bl i) 5 k (fv (A i))
  inj : ∀ i j, i < k → j < k → i ≠ j → bl i ≠ bl j
  sep : ∀ i, i < k → bl i ≠ h
theorem Mat.congr {w : World} {h k : Nat} {bl : Nat → Nat} {A A' : Nat → Nat → F} (m : Mat w h k bl A) (e : ∀ i j, i < k → j < k → A i j = A' i j) : Mat w h k bl A' :=
  ⟨m.head, fun i hi => (m.rows i hi).congr fun j hj => by simp only [fv, e i j hi hj], m.inj, m.sep⟩
theorem Mat.heap {w w' : World} {h k : Nat} {bl : Nat → Nat} {A : Nat → Nat → F} (m : Mat w h k bl A) (e : w'.heap = w.heap) : Mat w' h k bl A :=
  ⟨m.head.of_block (by rw [e]), fun i hi => (m.rows i hi).of_block (by rw [e]), m.inj, m.sep⟩
/-- One row has turned. -/
theorem Mat.turn {w w' : World} {h k c : Nat} {bl : Nat → Nat} {A : Nat → Nat → F} {r : Nat → F} (m : Mat w h k bl A) (hc : c < k) (ho : Oth (· = bl c) w w') (hr : w'.rowIs (bl c) 5 k (fv r)) : Mat w' h k bl (fun i => if i = c then r else A i) := by
  refine ⟨ho.row m.head.lt (fun e => m.sep c hc e.symm) m.head, fun i hi => ?_, m.inj, m.sep⟩
  by_cases e : i = c
  · subst e
    simp only [if_true]
    exact hr
  · simp only [if_neg e]
    exact ho.row (m.rows i hi).lt (fun x => m.inj i c hi hc e x) (m.rows i hi)
/-- Rows elsewhere. -/
theorem Mat.oth {w w' : World} {h k : Nat} {bl : Nat → Nat} {A : Nat → Nat → F} {S : Nat → Prop} (m : Mat w h k bl A) (ho : Oth S w w') (hh : ¬ S h) (hb : ∀ i, i < k → ¬ S (bl i)) : Mat w' h k bl A :=
  ⟨ho.row m.head.lt hh m.head, fun i hi => ho.row (m.rows i hi).lt (hb i hi) (m.rows i hi), m.inj, m.sep⟩

/-- Two such lists apart. -/
structure Apart (k h1 h2 : Nat) (b1 b2 : Nat → Nat) : Prop where
  rr : ∀ i j, i < k → j < k → b1 i ≠ b2 j
  hr : ∀ i, i < k → h1 ≠ b2 i ∧ h2 ≠ b1 i
  hh : h1 ≠ h2

/-- Place t is 0 in the rows below c but row t. -/
def clr (A X : Nat → Nat → F) (t c i : Nat) : Nat → F := if i < c ∧ i ≠ t then F.added (A i t) (X i) (X t) else X i
theorem clr_zero (A X : Nat → Nat → F) (t : Nat) : clr A X t 0 = X := by
  funext i
  rw [clr, if_neg (by omega)]
theorem clr_t (A X : Nat → Nat → F) (t c : Nat) : clr A X t c t = X t := by rw [clr, if_neg (by omega)]
theorem clr_c (A X : Nat → Nat → F) (t c : Nat) : clr A X t c c = X c := by rw [clr, if_neg (by omega)]
theorem clr_skip (A X : Nat → Nat → F) (t : Nat) : clr A X t (t + 1) = clr A X t t := by
  funext i
  unfold clr
  by_cases h : i < t
  · rw [if_pos (by omega), if_pos (by omega)]
  · rw [if_neg (by omega), if_neg (by omega)]
theorem clr_succ (A X : Nat → Nat → F) {t c : Nat} (h : c ≠ t) : (fun i => if i = c then F.added (A c t) (X c) (X t) else clr A X t c i) = clr A X t (c + 1) := by
  funext i
  unfold clr
  by_cases e : i = c
  · subst e
    rw [if_pos rfl, if_pos (by omega)]
  · rw [if_neg e]
    by_cases h1 : i < c ∧ i ≠ t
    · rw [if_pos h1, if_pos (by omega)]
    · rw [if_neg h1, if_neg (by omega)]

def OwnB2 (k : Nat) (b1 b2 : Nat → Nat) (x : Nat) : Prop := ∃ i, i < k ∧ (x = b1 i ∨ x = b2 i)

set_option maxHeartbeats 4000000 in
set_option maxRecDepth 100000 in
theorem clearPlace_any (k h1 h2 t : Nat) (b1 b2 : Nat → Nat) (A B : Nat → Nat → F) (w : World) (hk : k ≤ 128) (ht : t < k) (hA : Mat w h1 k b1 A) (hB : Mat w h2 k b2 B) (hap : Apart k h1 h2 b1 b2) :
    Calls Tryz.prog 96 #[.slice (some ⟨h1, 0, none⟩) k k, .slice (some ⟨h2, 0, none⟩) k k, .int .i64 (t : Int)] w fun e w' => e = .returned (.tuple #[]) ∧ Mat w' h1 k b1 (clr A A t k) ∧ Mat w' h2 k b2 (clr A B t k) ∧ Oth (OwnB2 k b1 b2) w w' := by
  go_enter Tryz.func96, Tryz.ntmps96
  go_wp2
  go_loopw [10] (fun vi wr => ∃ c : Nat, c ≤ k ∧ vi = .int .i64 (c : Int) ∧ Mat wr h1 k b1 (clr A A t c) ∧ Mat wr h2 k b2 (clr A B t c) ∧ Oth (OwnB2 k b1 b2) w wr) (fun i _ => k - (intOf i).toNat)
  case atStart => exact ⟨0, by omega, rfl, by rw [clr_zero]; exact hA, by rw [clr_zero]; exact hB, Oth.refl _ _⟩
  case round =>
    clear hA hB
    obtain ⟨c, hc, rfl, hA, hB, hO⟩ := hrel
    by_cases hlt : c < k
    · have hlt' : (c : Int) < (k : Int) := by omega
      by_cases hct : c = t
      · subst hct
        have hA2 := hA
        have hB2 := hB
        rw [← clr_skip] at hA2 hB2
        clear hA hB
        go_wp2
        go_roundw
        case rel => exact ⟨c + 1, by omega, by go_num, hA2, hB2, hO⟩
        case measure => simp [intOf]; omega
      · have hct' : ((c : Int) == (t : Int)) = false := by simp; omega
        have g1 : wr.cell? ⟨h1, c, none⟩ = some (.slice (some ⟨b1 c, 0, none⟩) k k) := hA.head.cell hlt
        have g2 : wr.cell? ⟨h1, t, none⟩ = some (.slice (some ⟨b1 t, 0, none⟩) k k) := hA.head.cell ht
        have g3 : wr.cell? ⟨h2, c, none⟩ = some (.slice (some ⟨b2 c, 0, none⟩) k k) := hB.head.cell hlt
        have g4 : wr.cell? ⟨h2, t, none⟩ = some (.slice (some ⟨b2 t, 0, none⟩) k k) := hB.head.cell ht
        have g5 : wr.cell? ⟨b1 c, t, none⟩ = some (.int .u8 ((A c t).val : Int)) := by
          have := (hA.rows c hlt).cell ht
          rw [clr_c] at this
          exact this
        have r1 := hA.rows c hlt
        have r2 := hA.rows t ht
        have r3 := hB.rows c hlt
        have r4 := hB.rows t ht
        rw [clr_c] at r1 r3
        rw [clr_t] at r2 r4
        have K1 : ∀ w0 : World, w0.heap = wr.heap → w0.os = wr.os → w0.tape = wr.tape → w0.output = wr.output → Calls Tryz.prog 110 #[.slice (some ⟨b1 c, 0, none⟩) k k, .int .u8 ((A c t).val : Int), .slice (some ⟨b1 t, 0, none⟩) k k] w0 fun e w' => e = .returned (.tuple #[]) ∧ Mat w' h1 k b1 (clr A A t (c + 1)) ∧ Mat w' h2 k b2 (clr A B t c) ∧ Oth (OwnB2 k b1 b2) w w' ∧ (w'.cell? ⟨h1, c, none⟩ = some (.slice (some ⟨b1 c, 0, none⟩) k k) ∧ w'.cell? ⟨h1, t, none⟩ = some (.slice (some ⟨b1 t, 0, none⟩) k k) ∧ w'.cell? ⟨h2, c, none⟩ = some (.slice (some ⟨b2 c, 0, none⟩) k k) ∧ w'.cell? ⟨h2, t, none⟩ = some (.slice (some ⟨b2 t, 0, none⟩) k k)) := fun w0 e e1 e2 e3 => by
          have m1 := hA.heap e
          have m2 := hB.heap e
          refine (addTimes_any (b1 c) (b1 t) k k k (A c) (A t) (A c t) w0 hk (r1.of_block (by rw [e])) (r2.of_block (by rw [e])) (by rw [e]; exact r1.lt) (by rw [e]; exact r2.lt) (hA.inj t c ht hlt (fun e => hct e.symm))).mono ?_
          rintro q w' ⟨rfl, h, ho⟩
          have n1 := m1.turn hlt ho h
          rw [clr_succ A A hct] at n1
          have n2 := m2.oth ho (fun x => (hap.hr c hlt).2 x) (fun i hi x => hap.rr c i hlt hi x.symm)
          refine ⟨rfl, n1, n2, ?_, n1.head.cell hlt, n1.head.cell ht, n2.head.cell hlt, n2.head.cell ht⟩
          · exact (Oth.mk (S := OwnB2 k b1 b2) (e1.trans hO.os) (e2.trans hO.tape) (e3.trans hO.output) (by rw [e]; exact hO.size) (fun j hj hn => by rw [e]; exact hO.block j hj hn)).trans ho fun j _ x => ⟨c, hlt, .inl x⟩
        have K2 : ∀ w0 w1 : World, w0.heap = w1.heap → w0.os = w1.os → w0.tape = w1.tape → w0.output = w1.output → Mat w1 h1 k b1 (clr A A t (c + 1)) → Mat w1 h2 k b2 (clr A B t c) → Oth (OwnB2 k b1 b2) w w1 → Calls Tryz.prog 110 #[.slice (some ⟨b2 c, 0, none⟩) k k, .int .u8 ((A c t).val : Int), .slice (some ⟨b2 t, 0, none⟩) k k] w0 fun e w' => e = .returned (.tuple #[]) ∧ Mat w' h1 k b1 (clr A A t (c + 1)) ∧ Mat w' h2 k b2 (clr A B t (c + 1)) ∧ Oth (OwnB2 k b1 b2) w w' ∧ (w'.cell? ⟨h1, c, none⟩ = some (.slice (some ⟨b1 c, 0, none⟩) k k) ∧ w'.cell? ⟨h1, t, none⟩ = some (.slice (some ⟨b1 t, 0, none⟩) k k) ∧ w'.cell? ⟨h2, c, none⟩ = some (.slice (some ⟨b2 c, 0, none⟩) k k) ∧ w'.cell? ⟨h2, t, none⟩ = some (.slice (some ⟨b2 t, 0, none⟩) k k)) := fun w0 w1 e e1 e2 e3 hA hB hO => by
          have m1 := hA.heap e
          have m2 := hB.heap e
          have r3 := m2.rows c hlt
          have r4 := m2.rows t ht
          rw [clr_c] at r3
          rw [clr_t] at r4
          refine (addTimes_any (b2 c) (b2 t) k k k (B c) (B t) (A c t) w0 hk r3 r4 r3.lt r4.lt (hB.inj t c ht hlt (fun e => hct e.symm))).mono ?_
          rintro q w' ⟨rfl, h, ho⟩
          have n1 := m2.turn hlt ho h
          rw [clr_succ A B hct] at n1
          have n2 := m1.oth ho (fun x => (hap.hr c hlt).1 x) (fun i hi x => hap.rr i c hi hlt x)
          refine ⟨rfl, n2, n1, ?_, n2.head.cell hlt, n2.head.cell ht, n1.head.cell hlt, n1.head.cell ht⟩
          · exact (Oth.mk (S := OwnB2 k b1 b2) (e1.trans hO.os) (e2.trans hO.tape) (e3.trans hO.output) (by rw [e]; exact hO.size) (fun j hj hn => by rw [e]; exact hO.block j hj hn)).trans ho fun j _ x => ⟨c, hlt, .inr x⟩
        clear r1 r2 r3 r4 hA hB
        generalize (A c t).val = fac at *
        generalize b1 c = b1c at *
        generalize b1 t = b1t at *
        generalize b2 c = b2c at *
        generalize b2 t = b2t at *
        go_wp2
        go_region_held3 (fun w' => w'.cell? ⟨h1, c, none⟩ = some (.slice (some ⟨b1c, 0, none⟩) k k) ∧ w'.cell? ⟨h1, t, none⟩ = some (.slice (some ⟨b1t, 0, none⟩) k k)) (go_keep)
          ((first
            | (go_at_call 110; refine (K1 _ (by rfl) (by rfl) (by rfl) (by rfl)).mono ?_; rintro q w2 ⟨rfl, hA2, hB2, hO2, d1, d2, d3, d4⟩)))
        have K3 := fun w0 e e1 e2 e3 => K2 w0 w2 e e1 e2 e3 hA2 hB2 hO2
        clear K1 K2 hA2 hB2 hO2
        go_wp2
        go_region_held3 (fun w' => w'.cell? ⟨h2, c, none⟩ = some (.slice (some ⟨b2c, 0, none⟩) k k) ∧ w'.cell? ⟨h2, t, none⟩ = some (.slice (some ⟨b2t, 0, none⟩) k k)) (go_keep)
          ((first
            | (go_at_call 110; refine (K3 _ (by rfl) (by rfl) (by rfl) (by rfl)).mono ?_; rintro q w3 ⟨rfl, hA2, hB2, hO2, d1, d2, d3, d4⟩)))
        have hA3 : Mat w3 h1 k b1 (clr A A t (c + 1)) := by assumption
        have hB3 : Mat w3 h2 k b2 (clr A B t (c + 1)) := by assumption
        have hO3 : Oth (OwnB2 k b1 b2) w w3 := by assumption
        go_wp2
        go_roundw
        case rel => exact ⟨c + 1, by omega, by go_num, hA3, hB3, hO3⟩
        case measure => simp [intOf]; omega
    · obtain rfl : c = k := by omega
      have hnl : ¬ ((c : Int) < (c : Int)) := by omega
      go_wp2
      go_end0
      exact ⟨rfl, hA, hB, hO⟩
end Go.Proofs.YtlghjjennhpjeaaGreatDoor

/-
  The inverse of a square of rows: run alone.
-/
namespace Go.Proofs.YtlghjjennhpjeaaGreatDoor
open Go.RowKit Go.Deep

theorem unit_val (k i j : Nat) (hi : i < k) : ((if j = i then (1 : F) else 0).val : Nat) = rowV k i j := by
  unfold rowV
  rw [if_pos hi]
  split <;> rfl
theorem newRows_mat {w w' : World} {k : Nat} (h : NewRows w w' k k k (rowV k)) : Mat w' w.heap.size k (fun i => w.heap.size + 1 + i) (fun i j => if j = i then 1 else 0) :=
  ⟨h.head.congr fun i hi => by unfold headV; rw [if_pos hi], fun i hi => (h.rows i hi).congr fun j hj => by simp only [fv]; rw [unit_val k i j hi], fun i j _ _ hne => by omega, fun i hi => by omega⟩

def InvPost (k : Nat) (b1 : Nat → Nat) (M : Nat → Nat → F) (w : World) (e : Ending) (w' : World) : Prop :=
  ∃ h2 b2 A B, e = .returned (.slice (some ⟨h2, 0, none⟩) k k) ∧ Mat w' h2 k b2 B ∧ F.Gj k M k A B ∧ Oth (fun x => ∃ i, i < k ∧ x = b1 i) w w' ∧ w.heap.size ≤ h2 ∧ ∀ i, i < k → w.heap.size ≤ b2 i
def updM (A : Nat → Nat → F) (t : Nat) (r : Nat → F) (i : Nat) : Nat → F := if i = t then r else A i
theorem turn_a (A : Nat → Nat → F) (t k : Nat) {i : Nat} (hi : i < k) : clr (updM A t (F.scaled (F.iv (A t t)) (A t))) (updM A t (F.scaled (F.iv (A t t)) (A t))) t k i = F.turnA A t i := by
  unfold clr F.turnA updM
  by_cases e : i = t
  · rw [if_neg (by omega), if_pos e, if_pos e]
  · rw [if_pos ⟨hi, e⟩, if_neg e, if_pos rfl, if_neg e]
theorem turn_b (A B : Nat → Nat → F) (t k : Nat) {i : Nat} (hi : i < k) : clr (updM A t (F.scaled (F.iv (A t t)) (A t))) (updM B t (F.scaled (F.iv (A t t)) (B t))) t k i = F.turnB A B t i := by
  unfold clr F.turnB updM
  by_cases e : i = t
  · rw [if_neg (by omega), if_pos e, if_pos e]
  · rw [if_pos ⟨hi, e⟩, if_neg e, if_neg e, if_neg e, if_pos rfl]

set_option maxHeartbeats 4000000 in
set_option maxRecDepth 100000 in
theorem inverse_any (k h1 : Nat) (b1 : Nat → Nat) (M : Nat → Nat → F) (px : Nat → F) (w : World) (hk : k ≤ 128) (hM : Mat w h1 k b1 M) (hS : F.Sq k px M) :
    Calls Tryz.prog 76 #[.slice (some ⟨h1, 0, none⟩) k k] w fun e w' => InvPost k b1 M w e w' := by
  obtain ⟨w1, hmk, h0⟩ := makeLists_new k k hk (rowV k) w
  go_enter Tryz.func76, Tryz.ntmps76
  go_wp2
  clear hmk
  go_loopw [12] (fun vi wr => ∃ c : Nat, c ≤ k ∧ vi = .int .i64 (c : Int) ∧ NewRows w wr k k c (rowV k)) (fun i _ => k - (intOf i).toNat)
  case atStart => exact ⟨0, by omega, rfl, h0⟩
  case round =>
    obtain ⟨c, hc, rfl, hN⟩ := hrel
    clear h0
    by_cases hlt : c < k
    · have hz := hN.size
      have hlt' : (c : Int) < (k : Int) := by omega
      have hcell : ∀ w', NewRow wr w' k (rowV k c) → w'.cell? ⟨w.heap.size, c, none⟩ = some (.slice none 0 0) ∧ w'.frozen? ⟨w.heap.size, c, none⟩ = false := fun w' h => by
        have hr := hN.head.of_block (h.below.block w.heap.size (by omega))
        refine ⟨?_, hr.frozen c⟩
        have := hr.cell hlt
        rw [this]
        unfold headV; rw [if_neg (by omega)]
      have HZ : Hid (wr.heap.size = w.heap.size + 1 + c) := hz
      clear hz
      go_wp2_with (first | (go_at_call 93; refine (unitRow_any _ _ hk hlt _).mono ?_; rintro e w2 ⟨rfl, h2⟩; obtain ⟨hc2, hf2⟩ := hcell _ h2; have h3 := hN.step h2; clear h2))
      go_roundw
      case rel => exact ⟨c + 1, by omega, by go_num, h3⟩
      case measure => simp [intOf]; omega
    · obtain rfl : c = k := by omega
      have hnl : ¬ ((c : Int) < (c : Int)) := by omega
      have hB0 := newRows_mat hN
      have hA0 : Mat wr h1 c b1 M := hM.oth (S := fun _ => False) (Oth.below hN.below) (fun x => x) (fun _ _ x => x)
      have hb1 : ∀ i, i < c → b1 i < w.heap.size := fun i hi => (hM.rows i hi).lt
      have hh1 : h1 < w.heap.size := hM.head.lt
      have hap : Apart c h1 w.heap.size b1 (fun i => w.heap.size + 1 + i) := ⟨fun i j hi hj => by have := hb1 i hi; omega, fun i hi => ⟨by omega, by have := hb1 i hi; omega⟩, by omega⟩
      have hO0 : Oth (fun x => ∃ i, i < c ∧ x = b1 i) w wr := Oth.below hN.below
      have hsz := hN.size
      go_wp2
      clear hM hN
      generalize hNN : w.heap.size = N at *
      generalize hbb : (fun i => N + 1 + i) = b2 at *
      have hb2 : ∀ i, N ≤ b2 i := fun i => by rw [← hbb]; show N ≤ N + 1 + i; omega
      clear hbb
      go_loopw [25] (fun vi wr => ∃ t : Nat, t ≤ c ∧ vi = .int .i64 (t : Int) ∧ ∃ A B, Mat wr h1 c b1 A ∧ Mat wr N c b2 B ∧ F.Gj c M t A B ∧ Oth (fun x => ∃ i, i < c ∧ x = b1 i) w wr) (fun i _ => c - (intOf i).toNat)
      case atStart => exact ⟨0, by omega, rfl, _, _, hA0, hB0, F.gj_start c M, hO0⟩
      case round =>
        clear hA0 hB0 hO0
        obtain ⟨t, ht, rfl, A, B, hA, hB, hG, hO⟩ := hrel
        by_cases hlt : t < c
        · have hlt' : (t : Int) < (c : Int) := by omega
          have hG2 := F.gj_turn hS hG hlt
          have g1 : wr.cell? ⟨h1, t, none⟩ = some (.slice (some ⟨b1 t, 0, none⟩) c c) := hA.head.cell hlt
          have g5 : wr.cell? ⟨b1 t, t, none⟩ = some (.int .u8 ((A t t).val : Int)) := (hA.rows t hlt).cell hlt
          have K0 := inv_any (A t t).val (A t t).isLt wr
          have K1 := scale_any (b1 t) c c (A t) (F.iv (A t t)) wr hk (hA.rows t hlt) (hA.rows t hlt).lt
          have K2 : ∀ w2, w2.rowIs (b1 t) 5 c (fv (F.scaled (F.iv (A t t)) (A t))) → Oth (· = b1 t) wr w2 → w2.cell? ⟨N, t, none⟩ = some (.slice (some ⟨b2 t, 0, none⟩) c c) ∧ Calls Tryz.prog 95 #[.slice (some ⟨b2 t, 0, none⟩) c c, .int .u8 ((F.iv (A t t)).val : Int)] w2 fun e w' => e = .returned (.tuple #[]) ∧ Mat w' h1 c b1 (updM A t (F.scaled (F.iv (A t t)) (A t))) ∧ Mat w' N c b2 (updM B t (F.scaled (F.iv (A t t)) (B t))) ∧ Oth (OwnB2 c b1 b2) wr w' := fun w2 hr ho => by
            have m1 := hA.turn hlt ho hr
            have m2 := hB.oth ho (fun x => (hap.hr t hlt).2 x) (fun i hi x => hap.rr t i hlt hi x.symm)
            refine ⟨m2.head.cell hlt, (scale_any (b2 t) c c (B t) (F.iv (A t t)) w2 hk (m2.rows t hlt) (m2.rows t hlt).lt).mono ?_⟩
            rintro q w' ⟨rfl, h, ho2⟩
            exact ⟨rfl, m1.oth ho2 (fun x => (hap.hr t hlt).1 x) (fun i hi x => hap.rr i t hi hlt x), m2.turn hlt ho2 h, (ho.mono (S' := OwnB2 c b1 b2) fun x e => ⟨t, hlt, .inl e⟩).trans ho2 fun j _ x => ⟨t, hlt, .inr x⟩⟩
          have K3 : ∀ w2, Mat w2 h1 c b1 (updM A t (F.scaled (F.iv (A t t)) (A t))) → Mat w2 N c b2 (updM B t (F.scaled (F.iv (A t t)) (B t))) → Oth (OwnB2 c b1 b2) wr w2 → Calls Tryz.prog 96 #[.slice (some ⟨h1, 0, none⟩) c c, .slice (some ⟨N, 0, none⟩) c c, .int .i64 (t : Int)] w2 fun e w' => e = .returned (.tuple #[]) ∧ Mat w' h1 c b1 (F.turnA A t) ∧ Mat w' N c b2 (F.turnB A B t) ∧ Oth (fun x => ∃ i, i < c ∧ x = b1 i) w w' := fun w2 m1 m2 ho => by
            refine (clearPlace_any c h1 N t b1 b2 _ _ w2 hk hlt m1 m2 hap).mono ?_
            rintro q w' ⟨rfl, n1, n2, ho2⟩
            refine ⟨rfl, n1.congr fun i j hi _ => congrFun (turn_a A t c hi) j, n2.congr fun i j hi _ => congrFun (turn_b A B t c hi) j, hO.trans (ho.trans ho2 fun _ _ x => x) fun x hx => ?_⟩
            rintro ⟨i, hi, e | e⟩
            · exact ⟨i, hi, e⟩
            · have := hb2 i
              omega
          clear hG hA hB
          have eiv : (F.iv (A t t)).val = inv (A t t).val := rfl
          rw [eiv] at K1 K2
          generalize inv (A t t).val = fac at *
          generalize (A t t).val = xtt at *
          generalize b1 t = b1t at *
          generalize b2 t = b2t at *
          go_wp2_with (first
            | (go_at_call 94; (with_reducible refine K0.mono ?_); rintro e w' ⟨rfl, hw'⟩; obtain rfl := hw'.symm)
            | (go_at_call 95; (with_reducible refine K1.mono ?_); rintro e w2 ⟨rfl, s1, s2⟩; obtain ⟨g2, K2'⟩ := K2 w2 s1 s2)
            | (go_at_call 95; (with_reducible refine K2'.mono ?_); rintro e w3 ⟨rfl, s3, s4, s5⟩; have K3' := K3 w3 s3 s4 s5)
            | (go_at_call 96; (with_reducible refine K3'.mono ?_); rintro e w4 ⟨rfl, s6, s7, s8⟩))
          go_roundw
          case rel => exact ⟨t + 1, by omega, by go_num, _, _, s6, s7, hG2, s8⟩
          case measure => simp [intOf]; omega
        · obtain rfl : t = c := by omega
          have hnl : ¬ ((t : Int) < (t : Int)) := by omega
          go_wp2
          go_ret
          exact ⟨N, b2, A, B, rfl, hB, hG, hO, by omega, fun i _ => by rw [hNN]; exact hb2 i⟩
end Go.Proofs.YtlghjjennhpjeaaGreatDoor

/-
  Which column is put where: in plain words.
-/
namespace Go.Proofs.YtlghjjennhpjeaaGreatDoor

def e1 : Option Nat → Nat
  | some _ => 0
  | none => 1
/-- How many places below t are empty. -/
def un (fl : Nat → Option Nat) : Nat → Nat
  | 0 => 0
  | t + 1 => un fl t + e1 (fl t)
theorem un_none (t : Nat) : un (fun _ => none) t = t := by
  induction t with
  | zero => rfl
  | succ t ih => rw [un, ih]; rfl
theorem un_upd (fl : Nat → Option Nat) (p i : Nat) (h : fl p = none) : ∀ t, un (fun x => if x = p then some i else fl x) t + (if p < t then 1 else 0) = un fl t
  | 0 => rfl
  | t + 1 => by
    have ih := un_upd fl p i h t
    simp only [un]
    by_cases e : t = p
    · subst e
      rw [if_neg (by omega)] at ih
      rw [if_pos rfl, if_pos (by omega), h]
      simp only [e1]
      omega
    · rw [if_neg e]
      by_cases e2 : p < t
      · rw [if_pos e2] at ih
        rw [if_pos (by omega)]
        omega
      · rw [if_neg e2] at ih
        rw [if_neg (by omega)]
        omega
theorem un_le (fl : Nat → Option Nat) {a b : Nat} (h : a ≤ b) : un fl a ≤ un fl b := by
  induction b with
  | zero =>
    obtain rfl : a = 0 := by omega
    exact Nat.le_refl _
  | succ b ih =>
    rcases Nat.lt_or_ge a (b + 1) with h1 | h1
    · exact Nat.le_trans (ih (by omega)) (by rw [un]; omega)
    · obtain rfl : a = b + 1 := by omega
      exact Nat.le_refl _

/-- Behind c columns. -/
structure Pl (k : Nat) (ix : Nat → Nat) (c : Nat) (fl : Nat → Option Nat) (O : List Nat) : Prop where
  fl1 : ∀ t i, fl t = some i → i < c ∧ ix i = t ∧ t < k
  fl2 : ∀ i, i < c → ix i < k → fl (ix i) = some i
  o1 : ∀ (m i : Nat), O[m]? = some i → i < c ∧ k ≤ ix i
  o2 : ∀ i, i < c → k ≤ ix i → ∃ m : Nat, O[m]? = some i
  o3 : ∀ (m m' i : Nat), O[m]? = some i → O[m']? = some i → m = m'
  cnt : O.length + k = c + un fl k
theorem pl_start (k : Nat) (ix : Nat → Nat) : Pl k ix 0 (fun _ => none) [] :=
  ⟨fun _ _ h => (by cases h), fun _ h => absurd h (by omega), fun _ _ h => (by simp at h), fun _ h => absurd h (by omega), fun _ _ _ h => (by simp at h), by rw [un_none]; simp⟩
theorem Pl.own {k c : Nat} {ix : Nat → Nat} {fl : Nat → Option Nat} {O : List Nat} (h : Pl k ix c fl O) (hi : ∀ i, i < c → ix i ≠ ix c) (hc : ix c < k) : fl (ix c) = none ∧ Pl k ix (c + 1) (fun x => if x = ix c then some c else fl x) O := by
  have hn : fl (ix c) = none := by
    cases hf : fl (ix c) with
    | none => rfl
    | some i =>
      obtain ⟨h1, h2, _⟩ := h.fl1 _ _ hf
      exact absurd h2 (hi i h1)
  refine ⟨hn, fun t i ht => ?_, fun i hic hik => ?_, fun m i hm => ?_, fun i hic hik => ?_, h.o3, ?_⟩
  · by_cases e : t = ix c
    · rw [if_pos e] at ht
      cases ht
      exact ⟨by omega, e.symm, by omega⟩
    · rw [if_neg e] at ht
      obtain ⟨h1, h2, h3⟩ := h.fl1 t i ht
      exact ⟨by omega, h2, h3⟩
  · by_cases e : i = c
    · subst e; rw [if_pos rfl]
    · rw [if_neg (hi i (by omega)), h.fl2 i (by omega) hik]
  · obtain ⟨h1, h2⟩ := h.o1 m i hm
    exact ⟨by omega, h2⟩
  · have : i ≠ c := by rintro rfl; omega
    exact h.o2 i (by omega) hik
  · have h1 := un_upd fl (ix c) c hn k
    rw [if_pos hc] at h1
    have h2 := h.cnt
    omega
theorem Pl.other {k c : Nat} {ix : Nat → Nat} {fl : Nat → Option Nat} {O : List Nat} (h : Pl k ix c fl O) (hc : k ≤ ix c) : Pl k ix (c + 1) fl (O ++ [c]) := by
  refine ⟨fun t i ht => ?_, fun i hic hik => ?_, fun m i hm => ?_, fun i hic hik => ?_, fun m m' i hm hm' => ?_, ?_⟩
  · obtain ⟨h1, h2⟩ := h.fl1 t i ht
    exact ⟨by omega, h2⟩
  · have : i ≠ c := by rintro rfl; omega
    exact h.fl2 i (by omega) hik
  · rw [List.getElem?_append] at hm
    split at hm
    · obtain ⟨h1, h2⟩ := h.o1 m i hm
      exact ⟨by omega, h2⟩
    · have : i = c := by
        cases hmm : m - O.length with
        | zero => rw [hmm] at hm; simp at hm; exact hm.symm
        | succ x => rw [hmm] at hm; simp at hm
      subst this
      exact ⟨by omega, hc⟩
  · by_cases e : i = c
    · subst e
      exact ⟨O.length, by simp⟩
    · obtain ⟨m, hm⟩ := h.o2 i (by omega) hik
      exact ⟨m, by rw [List.getElem?_append, if_pos (List.getElem?_eq_some_iff.1 hm).1]; exact hm⟩
  · have key : ∀ m : Nat, (O ++ [c])[m]? = some i → (m < O.length ∧ O[m]? = some i) ∨ (m = O.length ∧ i = c) := by
      intro m hm
      rw [List.getElem?_append] at hm
      split at hm
      · exact .inl ⟨by assumption, hm⟩
      · refine .inr ?_
        cases hmm : m - O.length with
        | zero => rw [hmm] at hm; simp at hm; exact ⟨by omega, hm.symm⟩
        | succ x => rw [hmm] at hm; simp at hm
    rcases key m hm with ⟨h1, h2⟩ | ⟨h1, h2⟩ <;> rcases key m' hm' with ⟨h3, h4⟩ | ⟨h3, h4⟩
    · exact h.o3 m m' i h2 h4
    · have := (h.o1 m i h2).1; omega
    · have := (h.o1 m' i h4).1; omega
    · omega
  · have := h.cnt
    simp
    omega

/-- Which column is put at place t, in the end. -/
def sg (fl : Nat → Option Nat) (O : List Nat) (t : Nat) : Nat := match fl t with
  | some i => i
  | none => O.getD (un fl t) 0
theorem Pl.room {k : Nat} {ix : Nat → Nat} {fl : Nat → Option Nat} {O : List Nat} (h : Pl k ix k fl O) {t : Nat} (ht : t < k) (hf : fl t = none) : un fl t < O.length := by
  have h1 := un_le fl (show t + 1 ≤ k by omega)
  have h2 := h.cnt
  rw [un, hf] at h1
  simp only [e1] at h1
  omega
theorem un_hit (fl : Nat → Option Nat) : ∀ (k m : Nat), m < un fl k → ∃ t, t < k ∧ fl t = none ∧ un fl t = m
  | 0, m, h => absurd h (by simp [un])
  | k + 1, m, h => by
    rcases Nat.lt_or_ge m (un fl k) with h1 | h1
    · obtain ⟨t, h2, h3⟩ := un_hit fl k m h1
      exact ⟨t, by omega, h3⟩
    · rw [un] at h
      cases hf : fl k with
      | some i => rw [hf] at h; simp only [e1] at h; omega
      | none =>
        rw [hf] at h
        simp only [e1] at h
        exact ⟨k, by omega, hf, by omega⟩

/-- What is so in the end. -/
structure Placed (k : Nat) (ix σ : Nat → Nat) : Prop where
  lt : ∀ t, t < k → σ t < k
  on : ∀ t, t < k → ix (σ t) < k → ix (σ t) = t
  inj : ∀ t u, t < k → u < k → t ≠ u → ix (σ t) ≠ ix (σ u)
  all : ∀ i, i < k → ∃ t, t < k ∧ σ t = i
theorem Pl.placed {k : Nat} {ix : Nat → Nat} {fl : Nat → Option Nat} {O : List Nat} (h : Pl k ix k fl O) (hi : ∀ i j, i < k → j < k → i ≠ j → ix i ≠ ix j) : Placed k ix (sg fl O) := by
  have hO : ∀ t, t < k → fl t = none → O[un fl t]? = some (sg fl O t) := fun t ht hf => by
    have := h.room ht hf
    simp only [sg, hf]
    rw [List.getD_eq_getElem?_getD, List.getElem?_eq_getElem this]
    rfl
  have lt : ∀ t, t < k → sg fl O t < k := fun t ht => by
    cases hf : fl t with
    | some i => simp only [sg, hf]; exact (h.fl1 t i hf).1
    | none => exact (h.o1 _ _ (hO t ht hf)).1
  have mono : ∀ t u, t < u → fl t = none → un fl t < un fl u := fun t u htu hf => by
    have := un_le fl (show t + 1 ≤ u from htu)
    rw [un, hf] at this
    simp only [e1] at this
    omega
  refine ⟨lt, fun t ht hx => ?_, fun t u ht hu hne => ?_, fun i hik => ?_⟩
  · cases hf : fl t with
    | some i => simp only [sg, hf]; exact (h.fl1 t i hf).2.1
    | none => have := (h.o1 _ _ (hO t ht hf)).2; omega
  · refine hi _ _ (lt t ht) (lt u hu) fun e => ?_
    cases hf : fl t with
    | some i =>
      cases hg : fl u with
      | some j =>
        have h1 := (h.fl1 t i hf).2.1
        have h2 := (h.fl1 u j hg).2.1
        simp only [sg, hf, hg] at e
        subst e
        omega
      | none =>
        have h1 := (h.o1 _ _ (hO u hu hg)).2
        rw [← e] at h1
        simp only [sg, hf] at h1
        have h2 := (h.fl1 t i hf).2
        omega
    | none =>
      have h0 := hO t ht hf
      cases hg : fl u with
      | some j =>
        have h1 := (h.o1 _ _ h0).2
        rw [e] at h1
        simp only [sg, hg] at h1
        have h2 := (h.fl1 u j hg).2
        omega
      | none =>
        have h1 := hO u hu hg
        rw [e] at h0
        have h2 := h.o3 _ _ _ h0 h1
        rcases Nat.lt_or_ge t u with h3 | h3
        · have := mono t u h3 hf; omega
        · have := mono u t (by omega) hg; omega
  · rcases Nat.lt_or_ge (ix i) k with hx | hx
    · exact ⟨ix i, hx, by simp only [sg, h.fl2 i hik hx]⟩
    · obtain ⟨m, hm⟩ := h.o2 i hik hx
      have hml := (List.getElem?_eq_some_iff.1 hm).1
      have := h.cnt
      obtain ⟨t, h1, h2, h3⟩ := un_hit fl k m (by omega)
      refine ⟨t, h1, ?_⟩
      have := hO t h1 h2
      rw [h3, hm] at this
      cases this
      rfl
end Go.Proofs.YtlghjjennhpjeaaGreatDoor

/-
  Which of n things a raw number speaks of; the numbers of parts.
-/
namespace Go.Proofs.YtlghjjennhpjeaaGreatDoor
open Go.RowKit Go.Deep

def pickZ (c : Int) : Int := if c < 0 then -(c + 1) else c
def pickN (c : Int) (n : Nat) : Nat := (pickZ c).toNat % n
theorem pickN_lt (c : Int) {n : Nat} (h : 0 < n) : pickN c n < n := Nat.mod_lt _ h

def prm (k n c : Nat) : Value := .agg #[.int .i64 (k : Int), .int .i64 (n : Int), .int .i64 (c : Int)]
def nOf (n : Int) : Nat := 1 + pickN n 12
def kOf (k n : Int) : Nat := 1 + pickN k (nOf n)
theorem nOf_le (n : Int) : 1 ≤ nOf n ∧ nOf n ≤ 12 := by have := pickN_lt n (show 0 < 12 by omega); unfold nOf; omega
theorem kOf_le (k n : Int) : 1 ≤ kOf k n ∧ kOf k n ≤ nOf n := by have := nOf_le n; have := pickN_lt k (show 0 < nOf n by omega); unfold kOf; omega
def In64 (c : Int) : Prop := -9223372036854775808 ≤ c ∧ c < 9223372036854775808

end Go.Proofs.YtlghjjennhpjeaaGreatDoor

/-
  An order of n things by raw numbers.
-/
namespace Go.Proofs.YtlghjjennhpjeaaGreatDoor
open Go.RowKit Go.Deep

/-- A list of numbers, anywhere. -/
structure Ints (w : World) (v : Value) (zs : List Int) : Prop where
  in64 : ∀ z ∈ zs, In64 z
  lies : (∃ cap bo, zs = [] ∧ v = .slice bo 0 cap) ∨ ∃ b off cap, v = .slice (some ⟨b, off, none⟩) zs.length cap ∧ b < w.heap.size ∧ ∀ j z, zs[j]? = some z → w.cell? ⟨b, off + j, none⟩ = some (.int .i64 z)
theorem Ints.below {w w' : World} {v : Value} {zs : List Int} (h : Ints w v zs) (hb : Below w.heap.size w w') : Ints w' v zs := by
  refine ⟨h.in64, ?_⟩
  rcases h.lies with h1 | ⟨b, off, cap, h1, h2, h3⟩
  · exact .inl h1
  · exact .inr ⟨b, off, cap, h1, Nat.lt_of_lt_of_le h2 hb.size, fun j z hz => by rw [hb.cell (p := ⟨b, off + j, none⟩) h2]; exact h3 j z hz⟩

theorem Ints.open {w : World} {v : Value} {zs : List Int} (h : Ints w v zs) : ∃ bo cap, v = .slice bo zs.length cap ∧ (0 < zs.length → ∃ b off, bo = some ⟨b, off, none⟩ ∧ b < w.heap.size ∧ ∀ j z, zs[j]? = some z → w.cell? ⟨b, off + j, none⟩ = some (.int .i64 z)) := by
  rcases h.lies with ⟨cap, bo, rfl, rfl⟩ | ⟨b, off, cap, h1, h2, h3⟩
  · exact ⟨bo, cap, rfl, fun h => absurd h (by simp)⟩
  · exact ⟨_, cap, h1, fun _ => ⟨b, off, rfl, h2, h3⟩⟩

/-- 0 to n - 1, each once. -/
structure Once (n : Nat) (xs : List Nat) : Prop where
  len : xs.length = n
  lt : ∀ (i x : Nat), xs[i]? = some x → x < n
  inj : ∀ (i j x : Nat), xs[i]? = some x → xs[j]? = some x → i = j
theorem once_range (n : Nat) : Once n (List.range n) := by
  refine ⟨by simp, fun i x h => ?_, fun i j x h h' => ?_⟩
  · rw [List.getElem?_eq_some_iff] at h
    obtain ⟨h1, h2⟩ := h
    simp at h1 h2
    omega
  · rw [List.getElem?_eq_some_iff] at h h'
    obtain ⟨h1, h2⟩ := h
    obtain ⟨h3, h4⟩ := h'
    simp at h2 h4
    omega
def swapL (xs : List Nat) (a b : Nat) : List Nat := (xs.set a (xs.getD b 0)).set b (xs.getD a 0)
theorem Once.swap {n : Nat} {xs : List Nat} (h : Once n xs) {a b : Nat} (ha : a < n) (hb : b < n) : Once n (swapL xs a b) := by
  have hl := h.len
  have ea : xs[a]? = some (xs.getD a 0) := by rw [List.getD_eq_getElem?_getD, List.getElem?_eq_getElem (by omega)]; rfl
  have eb : xs[b]? = some (xs.getD b 0) := by rw [List.getD_eq_getElem?_getD, List.getElem?_eq_getElem (by omega)]; rfl
  -- what lies at i lay at sw i
  have sw : ∀ (i x : Nat), (swapL xs a b)[i]? = some x → xs[if i = b then a else if i = a then b else i]? = some x := by
    intro i x hx
    unfold swapL at hx
    rw [List.getElem?_set] at hx
    by_cases hib : b = i
    · subst hib
      rw [if_pos rfl] at hx
      rw [if_pos rfl]
      split at hx
      · cases hx; exact ea
      · cases hx
    · rw [if_neg hib, List.getElem?_set] at hx
      rw [if_neg (fun e => hib e.symm)]
      by_cases hia : a = i
      · subst hia
        rw [if_pos rfl] at hx
        rw [if_pos rfl]
        split at hx
        · cases hx; exact eb
        · cases hx
      · rw [if_neg hia] at hx
        rw [if_neg (fun e => hia e.symm)]
        exact hx
  refine ⟨by simp [swapL, hl], fun i x hx => h.lt _ x (sw i x hx), fun i j x hi hj => ?_⟩
  have := h.inj _ _ x (sw i x hi) (sw j x hj)
  split at this <;> split at this <;> (try split at this) <;> (try split at this) <;> omega

def natI (xs : List Nat) : List Value := xs.map fun x => .int .i64 ((x : Nat) : Int)
theorem natI_get (xs : List Nat) (i : Nat) (h : i < xs.length) : (natI xs)[i]? = some (.int .i64 ((xs.getD i 0 : Nat) : Int)) := by
  unfold natI
  rw [List.getElem?_map, List.getElem?_eq_getElem h, List.getD_eq_getElem?_getD, List.getElem?_eq_getElem h]
  rfl
theorem natI_swap (xs : List Nat) (a b : Nat) : ((natI xs).set a (.int .i64 ((xs.getD b 0 : Nat) : Int))).set b (.int .i64 ((xs.getD a 0 : Nat) : Int)) = natI (swapL xs a b) := by
  unfold natI swapL
  rw [List.map_set, List.map_set]
theorem Tryz.infoI : (Tryz.prog.info? 3).map (fun i => (i.zero, i.size, i.bytes)) = some (some (.int .i64 0), 1, 8) := by kernel_rfl
theorem one_i64c (x : Int) : ∀ u ∈ [Value.int .i64 x], u.oneCell' = true := by intro u hu; simp at hu; subst hu; rfl

end Go.Proofs.YtlghjjennhpjeaaGreatDoor

/-
  The inverse of a square of rows: run alone.
-/
import Derived.Test.YtkpcmfgeanlcnaaSvF
namespace Go.Proofs.Ytkpcmfgeanlcnaa
open Go.RowKit Go.Deep

theorem unit_val (k i j : Nat) (hi : i < k) : ((if j = i then (1 : F) else 0).val : Nat) = rowV k i j := by
  unfold rowV
  rw [if_pos hi]
  split <;> rfl
theorem newRows_mat {w w' : World} {k : Nat} (h : NewRows w w' k k k (rowV k)) : Mat w' w.heap.size k (fun i => w.heap.size + 1 + i) (fun i j => if j = i then 1 else 0) :=
  ⟨h.head.congr fun i hi => by unfold headV; rw [if_pos hi], fun i hi => (h.rows i hi).congr fun j hj => by simp only [fv]; rw [unit_val k i j hi], fun i j _ _ hne => by omega, fun i hi => by omega⟩

def InvPost (k : Nat) (b1 : Nat → Nat) (M : Nat → Nat → F) (w : World) (e : Ending) (w' : World) : Prop :=
  ∃ h2 b2 A B, e = .returned (.slice (some ⟨h2, 0, none⟩) k k) ∧ Mat w' h2 k b2 B ∧ F.Gj k M k A B ∧ Oth (fun x => ∃ i, i < k ∧ x = b1 i) w w' ∧ w.heap.size ≤ h2 ∧ ∀ i, i < k → w.heap.size ≤ b2 i
def updM (A : Nat → Nat → F) (t : Nat) (r : Nat → F) (i : Nat) : Nat → F := if i = t then r else A i
theorem turn_a (A : Nat → Nat → F) (t k : Nat) {i : Nat} (hi : i < k) : clr (updM A t (F.scaled (F.iv (A t t)) (A t))) (updM A t (F.scaled (F.iv (A t t)) (A t))) t k i = F.turnA A t i := by
  unfold clr F.turnA updM
  by_cases e : i = t
  · rw [if_neg (by omega), if_pos e, if_pos e]
  · rw [if_pos ⟨hi, e⟩, if_neg e, if_pos rfl, if_neg e]
theorem turn_b (A B : Nat → Nat → F) (t k : Nat) {i : Nat} (hi : i < k) : clr (updM A t (F.scaled (F.iv (A t t)) (A t))) (updM B t (F.scaled (F.iv (A t t)) (B t))) t k i = F.turnB A B t i := by
  unfold clr F.turnB updM
  by_cases e : i = t
  · rw [if_neg (by omega), if_pos e, if_pos e]
  · rw [if_pos ⟨hi, e⟩, if_neg e, if_neg e, if_neg e, if_pos rfl]

set_option maxHeartbeats 4000000 in
set_option maxRecDepth 100000 in
theorem inverse_any (k h1 : Nat) (b1 : Nat → Nat) (M : Nat → Nat → F) (px : Nat → F) (w : World) (hk : k ≤ 128) (hM : Mat w h1 k b1 M) (hS : F.Sq k px M) :
    Calls Try.prog 36 #[.slice (some ⟨h1, 0, none⟩) k k] w fun e w' => InvPost k b1 M w e w' := by
  obtain ⟨w1, hmk, h0⟩ := makeLists_new k k hk (rowV k) w
  go_enter Try.func36, Try.ntmps36
  go_wp2
  clear hmk
  go_loopw [12] (fun vi wr => ∃ c : Nat, c ≤ k ∧ vi = .int .i64 (c : Int) ∧ NewRows w wr k k c (rowV k)) (fun i _ => k - (intOf i).toNat)
  case atStart => exact ⟨0, by omega, rfl, h0⟩
  case round =>
    obtain ⟨c, hc, rfl, hN⟩ := hrel
    clear h0
    by_cases hlt : c < k
    · have hz := hN.size
      have hlt' : (c : Int) < (k : Int) := by omega
      have hcell : ∀ w', NewRow wr w' k (rowV k c) → w'.cell? ⟨w.heap.size, c, none⟩ = some (.slice none 0 0) ∧ w'.frozen? ⟨w.heap.size, c, none⟩ = false := fun w' h => by
        have hr := hN.head.of_block (h.below.block w.heap.size (by omega))
        refine ⟨?_, hr.frozen c⟩
        have := hr.cell hlt
        rw [this]
        unfold headV; rw [if_neg (by omega)]
      have HZ : Hid (wr.heap.size = w.heap.size + 1 + c) := hz
      clear hz
      go_wp2_with (first | (go_at_call 43; refine (unitRow_any _ _ hk hlt _).mono ?_; rintro e w2 ⟨rfl, h2⟩; obtain ⟨hc2, hf2⟩ := hcell _ h2; have h3 := hN.step h2; clear h2))
      go_roundw
      case rel => exact ⟨c + 1, by omega, by go_num, h3⟩
      case measure => simp [intOf]; omega
    · obtain rfl : c = k := by omega
      have hnl : ¬ ((c : Int) < (c : Int)) := by omega
      have hB0 := newRows_mat hN
      have hA0 : Mat wr h1 c b1 M := hM.oth (S := fun _ => False) (Oth.below hN.below) (fun x => x) (fun _ _ x => x)
      have hb1 : ∀ i, i < c → b1 i < w.heap.size := fun i hi => (hM.rows i hi).lt
      have hh1 : h1 < w.heap.size := hM.head.lt
      have hap : Apart c h1 w.heap.size b1 (fun i => w.heap.size + 1 + i) := ⟨fun i j hi hj => by have := hb1 i hi; omega, fun i hi => ⟨by omega, by have := hb1 i hi; omega⟩, by omega⟩
      have hO0 : Oth (fun x => ∃ i, i < c ∧ x = b1 i) w wr := Oth.below hN.below
      have hsz := hN.size
      go_wp2
      clear hM hN
      generalize hNN : w.heap.size = N at *
      generalize hbb : (fun i => N + 1 + i) = b2 at *
      have hb2 : ∀ i, N ≤ b2 i := fun i => by rw [← hbb]; show N ≤ N + 1 + i; omega
      clear hbb
      go_loopw [25] (fun vi wr => ∃ t : Nat, t ≤ c ∧ vi = .int .i64 (t : Int) ∧ ∃ A B, Mat wr h1 c b1 A ∧ Mat wr N c b2 B ∧ F.Gj c M t A B ∧ Oth (fun x => ∃ i, i < c ∧ x = b1 i) w wr) (fun i _ => c - (intOf i).toNat)
      case atStart => exact ⟨0, by omega, rfl, _, _, hA0, hB0, F.gj_start c M, hO0⟩
      case round =>
        clear hA0 hB0 hO0
        obtain ⟨t, ht, rfl, A, B, hA, hB, hG, hO⟩ := hrel
        by_cases hlt : t < c
        · have hlt' : (t : Int) < (c : Int) := by omega
          have hG2 := F.gj_turn hS hG hlt
          have g1 : wr.cell? ⟨h1, t, none⟩ = some (.slice (some ⟨b1 t, 0, none⟩) c c) := hA.head.cell hlt
          have g5 : wr.cell? ⟨b1 t, t, none⟩ = some (.int .u8 ((A t t).val : Int)) := (hA.rows t hlt).cell hlt
          have K0 := inv_any (A t t).val (A t t).isLt wr
          have K1 := scale_any (b1 t) c c (A t) (F.iv (A t t)) wr hk (hA.rows t hlt) (hA.rows t hlt).lt
          have K2 : ∀ w2, w2.rowIs (b1 t) 5 c (fv (F.scaled (F.iv (A t t)) (A t))) → Oth (· = b1 t) wr w2 → w2.cell? ⟨N, t, none⟩ = some (.slice (some ⟨b2 t, 0, none⟩) c c) ∧ Calls Try.prog 44 #[.slice (some ⟨b2 t, 0, none⟩) c c, .int .u8 ((F.iv (A t t)).val : Int)] w2 fun e w' => e = .returned (.tuple #[]) ∧ Mat w' h1 c b1 (updM A t (F.scaled (F.iv (A t t)) (A t))) ∧ Mat w' N c b2 (updM B t (F.scaled (F.iv (A t t)) (B t))) ∧ Oth (OwnB2 c b1 b2) wr w' := fun w2 hr ho => by
            have m1 := hA.turn hlt ho hr
            have m2 := hB.oth ho (fun x => (hap.hr t hlt).2 x) (fun i hi x => hap.rr t i hlt hi x.symm)
            refine ⟨m2.head.cell hlt, (scale_any (b2 t) c c (B t) (F.iv (A t t)) w2 hk (m2.rows t hlt) (m2.rows t hlt).lt).mono ?_⟩
            rintro q w' ⟨rfl, h, ho2⟩
            exact ⟨rfl, m1.oth ho2 (fun x => (hap.hr t hlt).1 x) (fun i hi x => hap.rr i t hi hlt x), m2.turn hlt ho2 h, (ho.mono (S' := OwnB2 c b1 b2) fun x e => ⟨t, hlt, .inl e⟩).trans ho2 fun j _ x => ⟨t, hlt, .inr x⟩⟩
          have K3 : ∀ w2, Mat w2 h1 c b1 (updM A t (F.scaled (F.iv (A t t)) (A t))) → Mat w2 N c b2 (updM B t (F.scaled (F.iv (A t t)) (B t))) → Oth (OwnB2 c b1 b2) wr w2 → Calls Try.prog 45 #[.slice (some ⟨h1, 0, none⟩) c c, .slice (some ⟨N, 0, none⟩) c c, .int .i64 (t : Int)] w2 fun e w' => e = .returned (.tuple #[]) ∧ Mat w' h1 c b1 (F.turnA A t) ∧ Mat w' N c b2 (F.turnB A B t) ∧ Oth (fun x => ∃ i, i < c ∧ x = b1 i) w w' := fun w2 m1 m2 ho => by
            refine (clearPlace_any c h1 N t b1 b2 _ _ w2 hk hlt m1 m2 hap).mono ?_
            rintro q w' ⟨rfl, n1, n2, ho2⟩
            refine ⟨rfl, n1.congr fun i j hi _ => congrFun (turn_a A t c hi) j, n2.congr fun i j hi _ => congrFun (turn_b A B t c hi) j, hO.trans (ho.trans ho2 fun _ _ x => x) fun x hx => ?_⟩
            rintro ⟨i, hi, e | e⟩
            · exact ⟨i, hi, e⟩
            · have := hb2 i
              omega
          clear hG hA hB
          have eiv : (F.iv (A t t)).val = inv (A t t).val := rfl
          rw [eiv] at K1 K2
          generalize inv (A t t).val = fac at *
          generalize (A t t).val = xtt at *
          generalize b1 t = b1t at *
          generalize b2 t = b2t at *
          go_wp2_with (first
            | (go_at_call 20; (with_reducible refine K0.mono ?_); rintro e w' ⟨rfl, hw'⟩; obtain rfl := hw'.symm)
            | (go_at_call 44; (with_reducible refine K1.mono ?_); rintro e w2 ⟨rfl, s1, s2⟩; obtain ⟨g2, K2'⟩ := K2 w2 s1 s2)
            | (go_at_call 44; (with_reducible refine K2'.mono ?_); rintro e w3 ⟨rfl, s3, s4, s5⟩; have K3' := K3 w3 s3 s4 s5)
            | (go_at_call 45; (with_reducible refine K3'.mono ?_); rintro e w4 ⟨rfl, s6, s7, s8⟩))
          go_roundw
          case rel => exact ⟨t + 1, by omega, by go_num, _, _, s6, s7, hG2, s8⟩
          case measure => simp [intOf]; omega
        · obtain rfl : t = c := by omega
          have hnl : ¬ ((t : Int) < (t : Int)) := by omega
          go_wp2
          go_ret
          exact ⟨N, b2, A, B, rfl, hB, hG, hO, by omega, fun i _ => by rw [hNN]; exact hb2 i⟩
end Go.Proofs.Ytkpcmfgeanlcnaa

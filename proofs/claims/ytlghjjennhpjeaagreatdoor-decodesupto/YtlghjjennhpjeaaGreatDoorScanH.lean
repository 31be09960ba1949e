/-
  How the document reads a shard: the head.
-/
import Derived.Test.YtlghjjennhpjeaaGreatDoorScanF
import Derived.Deep.Cut
import Derived.Deep.CutRange
import Derived.Maps.AppendAt
namespace Go.Proofs.YtlghjjennhpjeaaGreatDoor
open Go.RowKit Go.Deep

def magic1 : List UInt8 := [67, 65, 73, 82, 78, 49]
def headR (r : Option (Nat × Nat)) (k n i z c m ln zz : Nat) : Option (Nat × Nat) :=
  orE (orE (orE (orE (orE (orE (orE (orE r (mustE (decide (1 ≤ k ∧ k ≤ 128)) 1 6)) (mustE (decide (k ≤ n ∧ n ≤ 128)) 1 7)) (mustE (decide (i < n)) 1 8)) (mustE (decide (z = 0)) 1 9)) (mustE (decide (1 ≤ c ∧ c ≤ 65536)) 1 10)) (mustE (decide (4 ≤ m ∧ m ≤ 300000)) 1 14)) (mustE (decide (ln ≤ 65536)) 1 18)) (mustE (decide (zz = 0)) 1 22)
def shardL (k n i c : Nat) (a b d : Value) : List Value := [.int .i64 (k : Int), .int .i64 (n : Int), .int .i64 (i : Int), .int .i64 (c : Int), a, b, d]

theorem ScR.ok {w : World} {sb : Nat} {v : Value} {at_ x y : Nat} {r : Option (Nat × Nat)} {ok ok' : Bool} (h : ScR w sb v at_ (orE r (mustE ok x y))) (e : ok = ok') : ScR w sb v at_ (orE r (mustE ok' x y)) := e ▸ h
set_option maxHeartbeats 4000000 in
set_option maxRecDepth 100000 in
theorem head_core (sb bb bo cap : Nat) (hbs : bb ≠ sb) (l : List UInt8) (hl : l.length < 2 ^ 60) (hcap : l.length ≤ cap) (w : World) (h : ScR w sb (.slice (some ⟨bb, bo, none⟩) l.length cap) 0 none) (hb : Byt w bb bo l) (hbb : bb < w.heap.size)
    (r : Option (Nat × Nat)) (h12 : orE (orE none (fixE l 0 magic1)) (sealE l 0 24) = r) (val : Nat → Nat → Nat)
    (hnum : ∀ (A N : Int) (a n : Nat), A = a → N = n → n ≤ 4 → a + n ≤ 32 → ∀ w', ScR w' sb (.slice (some ⟨bb, bo, none⟩) l.length cap) 0 r → Byt w' bb bo l →
      Calls Tryz.prog 29 #[.pointer (some ⟨sb, 0, none⟩), .int .i64 A, .int .i64 N] w' fun q w'' => q = .returned (.int .i64 (val a n : Nat)) ∧ w'' = w') :
    Calls Tryz.prog 28 #[.pointer (some ⟨sb, 0, none⟩)] w fun q w' => q = .returned (.agg (shardL (val 6 1) (val 7 1) (val 8 1) (val 10 4) (.slice none 0 0) (.slice none 0 0) (.slice none 0 0)).toArray) ∧
      ScR w' sb (.slice (some ⟨bb, bo, none⟩) l.length cap) 0 (headR r (val 6 1) (val 7 1) (val 8 1) (val 9 1) (val 10 4) (val 14 4) (val 18 4) (val 22 2)) ∧ But w.heap.size (· = sb) w w' := by
  have hsb := h.lt
  obtain ⟨k, ek⟩ : ∃ k, val 6 1 = k := ⟨_, rfl⟩
  obtain ⟨n, en⟩ : ∃ n, val 7 1 = n := ⟨_, rfl⟩
  obtain ⟨i, ei⟩ : ∃ i, val 8 1 = i := ⟨_, rfl⟩
  obtain ⟨c, ec⟩ : ∃ c, val 10 4 = c := ⟨_, rfl⟩
  obtain ⟨m, em⟩ : ∃ m, val 14 4 = m := ⟨_, rfl⟩
  obtain ⟨ln, eln⟩ : ∃ ln, val 18 4 = ln := ⟨_, rfl⟩
  obtain ⟨z, ez⟩ : ∃ z, val 9 1 = z := ⟨_, rfl⟩
  obtain ⟨zz, ezz⟩ : ∃ zz, val 22 2 = zz := ⟨_, rfl⟩
  have Ek : Hid (val 6 1 = k) := ek
  have En : Hid (val 7 1 = n) := en
  have Ei : Hid (val 8 1 = i) := ei
  have Ec : Hid (val 10 4 = c) := ec
  have Em : Hid (val 14 4 = m) := em
  have Eln : Hid (val 18 4 = ln) := eln
  have Ez : Hid (val 9 1 = z) := ez
  have Ezz : Hid (val 22 2 = zz) := ezz
  rw [ek, en, ei, ec, em, eln, ez, ezz]
  clear ek en ei ec em eln ez ezz
  go_enter Tryz.func28, Tryz.ntmps28
  have hA0 : ∀ o, But w.heap.size (fun _ => False) w (w.alloc o) := fun o => (But.refl _ _ _).alloc (Nat.le_refl _) o
  go_upto_region 12 with (first | (go_at_call 34; refine (fixed_r (sb := sb) (bb := bb) (bo := bo) (cap := cap) (l := l) (at_ := 0) (r := none) magic1 (by decide) hbs hl (by omega) (by exact h.later (hA0 _) hsb id) (by exact hb.later (hA0 _) hbb id) (by simp; omega)).mono ?_; rintro q w1 ⟨rfl, hS1, hB1⟩) | (go_at_call 60; refine (seal_r (sb := sb) (bb := bb) (bo := bo) (cap := cap) (l := l) (at_ := 0) (r := orE none (fixE l 0 magic1)) _ 24 (by rfl) (by omega) hbs hl hcap (by omega) (by exact hS1) (by exact (hb.later (hA0 _) hbb id).later hB1 (by simp; omega) hbs) (by have := hB1.size; simp at this; omega)).mono ?_; rintro q w2 ⟨rfl, hS2, hB2⟩; rw [h12] at hS2; obtain ⟨hsb2, hb2, hbb2⟩ : sb < w2.heap.size ∧ Byt w2 bb bo l ∧ bb < w2.heap.size := ⟨hS2.lt, ((hb.later (hA0 _) hbb id).later hB1 (by simp; omega) hbs).later hB2 (by have := hB1.size; simp at this; omega) hbs, by have := hB1.size; have := hB2.size; simp at *; omega⟩) | (go_at_call 29; refine (hnum _ _ 6 1 (by rfl) (by rfl) (by omega) (by omega) _ (by exact hS2.later (But.alloc (S := fun _ => False) (But.refl _ _ _) (Nat.le_refl _) _) hsb2 id) (by exact hb2.later (But.alloc (S := fun _ => False) (But.refl _ _ _) (Nat.le_refl _) _) hbb2 id)).mono ?_; rintro q w' ⟨rfl, hw'⟩; obtain rfl := hw'.symm; rw [Ek.out]) | (go_at_call 29; refine (hnum _ _ 7 1 (by rfl) (by rfl) (by omega) (by omega) _ (by exact hS2.later (But.alloc (S := fun _ => False) (But.refl _ _ _) (Nat.le_refl _) _) hsb2 id) (by exact hb2.later (But.alloc (S := fun _ => False) (But.refl _ _ _) (Nat.le_refl _) _) hbb2 id)).mono ?_; rintro q w' ⟨rfl, hw'⟩; obtain rfl := hw'.symm; rw [En.out]) | (go_at_call 29; refine (hnum _ _ 8 1 (by rfl) (by rfl) (by omega) (by omega) _ (by exact hS2.later (But.alloc (S := fun _ => False) (But.refl _ _ _) (Nat.le_refl _) _) hsb2 id) (by exact hb2.later (But.alloc (S := fun _ => False) (But.refl _ _ _) (Nat.le_refl _) _) hbb2 id)).mono ?_; rintro q w' ⟨rfl, hw'⟩; obtain rfl := hw'.symm; rw [Ei.out]) | (go_at_call 29; refine (hnum _ _ 10 4 (by rfl) (by rfl) (by omega) (by omega) _ (by exact hS2.later (But.alloc (S := fun _ => False) (But.refl _ _ _) (Nat.le_refl _) _) hsb2 id) (by exact hb2.later (But.alloc (S := fun _ => False) (But.refl _ _ _) (Nat.le_refl _) _) hbb2 id)).mono ?_; rintro q w' ⟨rfl, hw'⟩; obtain rfl := hw'.symm; rw [Ec.out]) | (go_at_call 29; refine (hnum _ _ 14 4 (by rfl) (by rfl) (by omega) (by omega) _ (by exact hS2.later (But.alloc (S := fun _ => False) (But.refl _ _ _) (Nat.le_refl _) _) hsb2 id) (by exact hb2.later (But.alloc (S := fun _ => False) (But.refl _ _ _) (Nat.le_refl _) _) hbb2 id)).mono ?_; rintro q w' ⟨rfl, hw'⟩; obtain rfl := hw'.symm; rw [Em.out]) | (go_at_call 29; refine (hnum _ _ 18 4 (by rfl) (by rfl) (by omega) (by omega) _ (by exact hS2.later (But.alloc (S := fun _ => False) (But.refl _ _ _) (Nat.le_refl _) _) hsb2 id) (by exact hb2.later (But.alloc (S := fun _ => False) (But.refl _ _ _) (Nat.le_refl _) _) hbb2 id)).mono ?_; rintro q w' ⟨rfl, hw'⟩; obtain rfl := hw'.symm; rw [Eln.out]) | (go_at_call 29; refine (hnum _ _ 9 1 (by rfl) (by rfl) (by omega) (by omega) _ (by exact hS2.later (But.alloc (S := fun _ => False) (But.refl _ _ _) (Nat.le_refl _) _) hsb2 id) (by exact hb2.later (But.alloc (S := fun _ => False) (But.refl _ _ _) (Nat.le_refl _) _) hbb2 id)).mono ?_; rintro q w' ⟨rfl, hw'⟩; obtain rfl := hw'.symm; rw [Ez.out]) | (go_at_call 29; refine (hnum _ _ 22 2 (by rfl) (by rfl) (by omega) (by omega) _ (by exact hS2.later (But.alloc (S := fun _ => False) (But.refl _ _ _) (Nat.le_refl _) _) hsb2 id) (by exact hb2.later (But.alloc (S := fun _ => False) (But.refl _ _ _) (Nat.le_refl _) _) hbb2 id)).mono ?_; rintro q w' ⟨rfl, hw'⟩; obtain rfl := hw'.symm; rw [Ezz.out]))
  have hX := RowAt.made w2 (shardL k n i c (.slice none 0 0) (.slice none 0 0) (.slice none 0 0)) 41
  have hbe : But w2.heap.size (fun _ => False) w2 (w2.alloc (.cells (shardL k n i c (.slice none 0 0) (.slice none 0 0) (.slice none 0 0)).toArray 41)) := But.alloc (But.refl _ _ _) (Nat.le_refl _) _
  have hS3 := hS2.later hbe hsb2 id
  have hxb : w2.heap.size < (w2.alloc (.cells (shardL k n i c (.slice none 0 0) (.slice none 0 0) (.slice none 0 0)).toArray 41)).heap.size := by simp
  have hwd : w.heap.size < w1.heap.size := by have := hB1.size; simp at this; omega
  have hB3 : But w.heap.size (· = sb) w (w2.alloc (.cells (shardL k n i c (.slice none 0 0) (.slice none 0 0) (.slice none 0 0)).toArray 41)) :=
    (((hA0 _).mono (Nat.le_refl _) (fun _ x => x.elim)).trans (hB1.mono (by simp) (fun _ x => x))).trans ((hB2.mono (Nat.le_of_lt hwd) (fun _ x => x)).trans (hbe.mono (by have := hB2.size; omega) (fun _ x => x.elim)))
  have hR : RowAt (w2.alloc (.cells (shardL k n i c (.slice none 0 0) (.slice none 0 0) (.slice none 0 0)).toArray 41)) w.heap.size (shardL 0 0 0 0 (.slice none 0 0) (.slice none 0 0) (.slice none 0 0)) 41 :=
    (((RowAt.made w (shardL 0 0 0 0 (.slice none 0 0) (.slice none 0 0) (.slice none 0 0)) 41).later hB1 (by simp) (by omega)).later hB2 hwd (by omega)).later hbe (by have := hB2.size; omega) id
  have hxs : w2.heap.size ≠ sb := by omega
  have hrx : w.heap.size ≠ w2.heap.size := by have := hB2.size; omega
  have hrs : w.heap.size ≠ sb := by omega
  clear hS1 hB1 hS2 hB2 hbe hb2 hbb2 hwd hA0
  unfold shardL at hX hS3 hxb hB3 hR
  generalize w2.alloc (Obj.cells (List.toArray [Value.int .i64 (k : Int), Value.int .i64 (n : Int), Value.int .i64 (i : Int), Value.int .i64 (c : Int), Value.slice none 0 0, Value.slice none 0 0, Value.slice none 0 0]) 41) = w3 at hX hS3 hxb hB3 hR ⊢
  generalize w2.heap.size = xb at hX hxb hxs hrx hsb2 ⊢
  clear hsb2 hb hbb h h12 hnum
  have hB := But.refl w3.heap.size (· = sb) w3
  have hS := hS3
  have hY := hX
  have c0 := hY.cell (i := 0) rfl
  go_cut [] from 32 (fun wx => ScR wx sb (.slice (some ⟨bb, bo, none⟩) l.length cap) 0 (orE r (mustE (decide (1 ≤ k ∧ k ≤ 128)) 1 6)) ∧ But w3.heap.size (· = sb) w3 wx)
  case first =>
    by_cases q1 : 1 ≤ k
    · go_wp2_with (first | (go_at_call 31; refine (must_r (sb := sb) (at_ := 0) (r := r) _ _ _ 1 6 (by rfl) (by rfl) (by decide) (by exact hS)).mono ?_; rintro q w' ⟨rfl, hS', hB'⟩))
      go_meet
      exact ⟨hS'.ok (by first | rfl | (rw [Bool.eq_iff_iff]; simp; done) | (rw [Bool.eq_iff_iff]; simp <;> omega)), hB.trans (hB'.mono hB.size (fun _ x => x))⟩
    · go_wp2_with (first | (go_at_call 31; refine (must_r (sb := sb) (at_ := 0) (r := r) _ _ _ 1 6 (by rfl) (by rfl) (by decide) (by exact hS)).mono ?_; rintro q w' ⟨rfl, hS', hB'⟩))
      go_meet
      exact ⟨hS'.ok (by first | rfl | (rw [Bool.eq_iff_iff]; simp; done) | (rw [Bool.eq_iff_iff]; simp <;> omega)), hB.trans (hB'.mono hB.size (fun _ x => x))⟩
  case rest =>
  clear c0
  clear hS hB hY
  obtain ⟨hS, hB⟩ := hcut
  have hY := hX.later hB hxb hxs
  go_upto_region 13 with fail
  have c0 := hY.cell (i := 0) rfl
  have c1 := hY.cell (i := 1) rfl
  go_cut [] from 32 (fun wx => ScR wx sb (.slice (some ⟨bb, bo, none⟩) l.length cap) 0 (orE (orE r (mustE (decide (1 ≤ k ∧ k ≤ 128)) 1 6)) (mustE (decide (k ≤ n ∧ n ≤ 128)) 1 7)) ∧ But w3.heap.size (· = sb) w3 wx)
  case first =>
    by_cases q1 : k ≤ n
    · go_wp2_with (first | (go_at_call 31; refine (must_r (sb := sb) (at_ := 0) (r := (orE r (mustE (decide (1 ≤ k ∧ k ≤ 128)) 1 6))) _ _ _ 1 7 (by rfl) (by rfl) (by decide) (by exact hS)).mono ?_; rintro q w' ⟨rfl, hS', hB'⟩))
      go_meet
      exact ⟨hS'.ok (by first | rfl | (rw [Bool.eq_iff_iff]; simp; done) | (rw [Bool.eq_iff_iff]; simp <;> omega)), hB.trans (hB'.mono hB.size (fun _ x => x))⟩
    · go_wp2_with (first | (go_at_call 31; refine (must_r (sb := sb) (at_ := 0) (r := (orE r (mustE (decide (1 ≤ k ∧ k ≤ 128)) 1 6))) _ _ _ 1 7 (by rfl) (by rfl) (by decide) (by exact hS)).mono ?_; rintro q w' ⟨rfl, hS', hB'⟩))
      go_meet
      exact ⟨hS'.ok (by first | rfl | (rw [Bool.eq_iff_iff]; simp; done) | (rw [Bool.eq_iff_iff]; simp <;> omega)), hB.trans (hB'.mono hB.size (fun _ x => x))⟩
  case rest =>
  clear c0 c1
  clear hS hB hY
  obtain ⟨hS, hB⟩ := hcut
  have hY := hX.later hB hxb hxs
  go_upto_region 14 with fail
  have c1 := hY.cell (i := 1) rfl
  have c2 := hY.cell (i := 2) rfl
  go_cut [] from 32 (fun wx => ScR wx sb (.slice (some ⟨bb, bo, none⟩) l.length cap) 0 (orE (orE (orE r (mustE (decide (1 ≤ k ∧ k ≤ 128)) 1 6)) (mustE (decide (k ≤ n ∧ n ≤ 128)) 1 7)) (mustE (decide (i < n)) 1 8)) ∧ But w3.heap.size (· = sb) w3 wx)
  case first =>
    go_wp2_with (first | (go_at_call 31; refine (must_r (sb := sb) (at_ := 0) (r := (orE (orE r (mustE (decide (1 ≤ k ∧ k ≤ 128)) 1 6)) (mustE (decide (k ≤ n ∧ n ≤ 128)) 1 7))) _ _ _ 1 8 (by rfl) (by rfl) (by decide) (by exact hS)).mono ?_; rintro q w' ⟨rfl, hS', hB'⟩))
    go_meet
    exact ⟨hS'.ok (by first | rfl | (rw [Bool.eq_iff_iff]; simp; done) | (rw [Bool.eq_iff_iff]; simp <;> omega)), hB.trans (hB'.mono hB.size (fun _ x => x))⟩
  case rest =>
  clear c1 c2
  clear hS hB hY
  obtain ⟨hS, hB⟩ := hcut
  have hY := hX.later hB hxb hxs
  go_upto_region 15 with fail
  go_cut [] from 32 (fun wx => ScR wx sb (.slice (some ⟨bb, bo, none⟩) l.length cap) 0 (orE (orE (orE (orE r (mustE (decide (1 ≤ k ∧ k ≤ 128)) 1 6)) (mustE (decide (k ≤ n ∧ n ≤ 128)) 1 7)) (mustE (decide (i < n)) 1 8)) (mustE (decide (z = 0)) 1 9)) ∧ But w3.heap.size (· = sb) w3 wx)
  case first =>
    go_wp2_with (first | (go_at_call 31; refine (must_r (sb := sb) (at_ := 0) (r := (orE (orE (orE r (mustE (decide (1 ≤ k ∧ k ≤ 128)) 1 6)) (mustE (decide (k ≤ n ∧ n ≤ 128)) 1 7)) (mustE (decide (i < n)) 1 8))) _ _ _ 1 9 (by rfl) (by rfl) (by decide) (by exact hS)).mono ?_; rintro q w' ⟨rfl, hS', hB'⟩))
    go_meet
    exact ⟨hS'.ok (by first | rfl | (rw [Bool.eq_iff_iff]; simp; done) | (rw [Bool.eq_iff_iff]; simp <;> omega)), hB.trans (hB'.mono hB.size (fun _ x => x))⟩
  case rest =>
  clear hS hB hY
  obtain ⟨hS, hB⟩ := hcut
  have hY := hX.later hB hxb hxs
  go_upto_region 16 with fail
  have c3 := hY.cell (i := 3) rfl
  go_cut [] from 32 (fun wx => ScR wx sb (.slice (some ⟨bb, bo, none⟩) l.length cap) 0 (orE (orE (orE (orE (orE r (mustE (decide (1 ≤ k ∧ k ≤ 128)) 1 6)) (mustE (decide (k ≤ n ∧ n ≤ 128)) 1 7)) (mustE (decide (i < n)) 1 8)) (mustE (decide (z = 0)) 1 9)) (mustE (decide (1 ≤ c ∧ c ≤ 65536)) 1 10)) ∧ But w3.heap.size (· = sb) w3 wx)
  case first =>
    by_cases q1 : 1 ≤ c
    · go_wp2_with (first | (go_at_call 31; refine (must_r (sb := sb) (at_ := 0) (r := (orE (orE (orE (orE r (mustE (decide (1 ≤ k ∧ k ≤ 128)) 1 6)) (mustE (decide (k ≤ n ∧ n ≤ 128)) 1 7)) (mustE (decide (i < n)) 1 8)) (mustE (decide (z = 0)) 1 9))) _ _ _ 1 10 (by rfl) (by rfl) (by decide) (by exact hS)).mono ?_; rintro q w' ⟨rfl, hS', hB'⟩))
      go_meet
      exact ⟨hS'.ok (by first | rfl | (rw [Bool.eq_iff_iff]; simp; done) | (rw [Bool.eq_iff_iff]; simp <;> omega)), hB.trans (hB'.mono hB.size (fun _ x => x))⟩
    · go_wp2_with (first | (go_at_call 31; refine (must_r (sb := sb) (at_ := 0) (r := (orE (orE (orE (orE r (mustE (decide (1 ≤ k ∧ k ≤ 128)) 1 6)) (mustE (decide (k ≤ n ∧ n ≤ 128)) 1 7)) (mustE (decide (i < n)) 1 8)) (mustE (decide (z = 0)) 1 9))) _ _ _ 1 10 (by rfl) (by rfl) (by decide) (by exact hS)).mono ?_; rintro q w' ⟨rfl, hS', hB'⟩))
      go_meet
      exact ⟨hS'.ok (by first | rfl | (rw [Bool.eq_iff_iff]; simp; done) | (rw [Bool.eq_iff_iff]; simp <;> omega)), hB.trans (hB'.mono hB.size (fun _ x => x))⟩
  case rest =>
  clear c3
  clear hS hB hY
  obtain ⟨hS, hB⟩ := hcut
  have hY := hX.later hB hxb hxs
  go_upto_region 17 with fail
  go_cut [] from 32 (fun wx => ScR wx sb (.slice (some ⟨bb, bo, none⟩) l.length cap) 0 (orE (orE (orE (orE (orE (orE r (mustE (decide (1 ≤ k ∧ k ≤ 128)) 1 6)) (mustE (decide (k ≤ n ∧ n ≤ 128)) 1 7)) (mustE (decide (i < n)) 1 8)) (mustE (decide (z = 0)) 1 9)) (mustE (decide (1 ≤ c ∧ c ≤ 65536)) 1 10)) (mustE (decide (4 ≤ m ∧ m ≤ 300000)) 1 14)) ∧ But w3.heap.size (· = sb) w3 wx)
  case first =>
    by_cases q1 : 4 ≤ m
    · go_wp2_with (first | (go_at_call 31; refine (must_r (sb := sb) (at_ := 0) (r := (orE (orE (orE (orE (orE r (mustE (decide (1 ≤ k ∧ k ≤ 128)) 1 6)) (mustE (decide (k ≤ n ∧ n ≤ 128)) 1 7)) (mustE (decide (i < n)) 1 8)) (mustE (decide (z = 0)) 1 9)) (mustE (decide (1 ≤ c ∧ c ≤ 65536)) 1 10))) _ _ _ 1 14 (by rfl) (by rfl) (by decide) (by exact hS)).mono ?_; rintro q w' ⟨rfl, hS', hB'⟩))
      go_meet
      exact ⟨hS'.ok (by first | rfl | (rw [Bool.eq_iff_iff]; simp; done) | (rw [Bool.eq_iff_iff]; simp <;> omega)), hB.trans (hB'.mono hB.size (fun _ x => x))⟩
    · go_wp2_with (first | (go_at_call 31; refine (must_r (sb := sb) (at_ := 0) (r := (orE (orE (orE (orE (orE r (mustE (decide (1 ≤ k ∧ k ≤ 128)) 1 6)) (mustE (decide (k ≤ n ∧ n ≤ 128)) 1 7)) (mustE (decide (i < n)) 1 8)) (mustE (decide (z = 0)) 1 9)) (mustE (decide (1 ≤ c ∧ c ≤ 65536)) 1 10))) _ _ _ 1 14 (by rfl) (by rfl) (by decide) (by exact hS)).mono ?_; rintro q w' ⟨rfl, hS', hB'⟩))
      go_meet
      exact ⟨hS'.ok (by first | rfl | (rw [Bool.eq_iff_iff]; simp; done) | (rw [Bool.eq_iff_iff]; simp <;> omega)), hB.trans (hB'.mono hB.size (fun _ x => x))⟩
  case rest =>
  clear hS hB hY
  obtain ⟨hS, hB⟩ := hcut
  have hY := hX.later hB hxb hxs
  go_upto_region 18 with fail
  go_cut [] from 32 (fun wx => ScR wx sb (.slice (some ⟨bb, bo, none⟩) l.length cap) 0 (orE (orE (orE (orE (orE (orE (orE r (mustE (decide (1 ≤ k ∧ k ≤ 128)) 1 6)) (mustE (decide (k ≤ n ∧ n ≤ 128)) 1 7)) (mustE (decide (i < n)) 1 8)) (mustE (decide (z = 0)) 1 9)) (mustE (decide (1 ≤ c ∧ c ≤ 65536)) 1 10)) (mustE (decide (4 ≤ m ∧ m ≤ 300000)) 1 14)) (mustE (decide (ln ≤ 65536)) 1 18)) ∧ But w3.heap.size (· = sb) w3 wx)
  case first =>
    go_wp2_with (first | (go_at_call 31; refine (must_r (sb := sb) (at_ := 0) (r := (orE (orE (orE (orE (orE (orE r (mustE (decide (1 ≤ k ∧ k ≤ 128)) 1 6)) (mustE (decide (k ≤ n ∧ n ≤ 128)) 1 7)) (mustE (decide (i < n)) 1 8)) (mustE (decide (z = 0)) 1 9)) (mustE (decide (1 ≤ c ∧ c ≤ 65536)) 1 10)) (mustE (decide (4 ≤ m ∧ m ≤ 300000)) 1 14))) _ _ _ 1 18 (by rfl) (by rfl) (by decide) (by exact hS)).mono ?_; rintro q w' ⟨rfl, hS', hB'⟩))
    go_meet
    exact ⟨hS'.ok (by first | rfl | (rw [Bool.eq_iff_iff]; simp; done) | (rw [Bool.eq_iff_iff]; simp <;> omega)), hB.trans (hB'.mono hB.size (fun _ x => x))⟩
  case rest =>
  clear hS hB hY
  obtain ⟨hS, hB⟩ := hcut
  have hY := hX.later hB hxb hxs
  go_upto_region 19 with fail
  go_cut [] from 32 (fun wx => ScR wx sb (.slice (some ⟨bb, bo, none⟩) l.length cap) 0 (orE (orE (orE (orE (orE (orE (orE (orE r (mustE (decide (1 ≤ k ∧ k ≤ 128)) 1 6)) (mustE (decide (k ≤ n ∧ n ≤ 128)) 1 7)) (mustE (decide (i < n)) 1 8)) (mustE (decide (z = 0)) 1 9)) (mustE (decide (1 ≤ c ∧ c ≤ 65536)) 1 10)) (mustE (decide (4 ≤ m ∧ m ≤ 300000)) 1 14)) (mustE (decide (ln ≤ 65536)) 1 18)) (mustE (decide (zz = 0)) 1 22)) ∧ But w3.heap.size (· = sb) w3 wx)
  case first =>
    go_wp2_with (first | (go_at_call 31; refine (must_r (sb := sb) (at_ := 0) (r := (orE (orE (orE (orE (orE (orE (orE r (mustE (decide (1 ≤ k ∧ k ≤ 128)) 1 6)) (mustE (decide (k ≤ n ∧ n ≤ 128)) 1 7)) (mustE (decide (i < n)) 1 8)) (mustE (decide (z = 0)) 1 9)) (mustE (decide (1 ≤ c ∧ c ≤ 65536)) 1 10)) (mustE (decide (4 ≤ m ∧ m ≤ 300000)) 1 14)) (mustE (decide (ln ≤ 65536)) 1 18))) _ _ _ 1 22 (by rfl) (by rfl) (by decide) (by exact hS)).mono ?_; rintro q w' ⟨rfl, hS', hB'⟩))
    go_meet
    exact ⟨hS'.ok (by first | rfl | (rw [Bool.eq_iff_iff]; simp; done) | (rw [Bool.eq_iff_iff]; simp <;> omega)), hB.trans (hB'.mono hB.size (fun _ x => x))⟩
  case rest =>
  clear hS hB hY
  obtain ⟨hS, hB⟩ := hcut
  have hY := hX.later hB hxb hxs
  have hRr : w.heap.size < w3.heap.size := RowAt.lt hR
  have hQ := hR.later hB hRr hrs
  have c0 := hY.cell (i := 0) rfl
  have d0 := hQ.cell (i := 0) rfl
  have f0 := hQ.frozen 0
  have c1 := hY.cell (i := 1) rfl
  have d1 := hQ.cell (i := 1) rfl
  have f1 := hQ.frozen 1
  have c2 := hY.cell (i := 2) rfl
  have d2 := hQ.cell (i := 2) rfl
  have f2 := hQ.frozen 2
  have c3 := hY.cell (i := 3) rfl
  have d3 := hQ.cell (i := 3) rfl
  have f3 := hQ.frozen 3
  have c4 := hY.cell (i := 4) rfl
  have d4 := hQ.cell (i := 4) rfl
  have f4 := hQ.frozen 4
  have c5 := hY.cell (i := 5) rfl
  have d5 := hQ.cell (i := 5) rfl
  have f5 := hQ.frozen 5
  have c6 := hY.cell (i := 6) rfl
  have d6 := hQ.cell (i := 6) rfl
  have f6 := hQ.frozen 6
  go_wp2
  have hF := ((((((hQ.set 0 (.int .i64 (k : Int))).set 1 (.int .i64 (n : Int))).set 2 (.int .i64 (i : Int))).set 3 (.int .i64 (c : Int))).set 4 (.slice none 0 0)).set 5 (.slice none 0 0)).set 6 (.slice none 0 0)
  have hG : But wc.heap.size (· = w.heap.size) wc _ := ((((((((But.refl wc.heap.size (· = w.heap.size) wc).setCell (p := ⟨w.heap.size, 0, none⟩) (.inr rfl) (.int .i64 (k : Int))).setCell (p := ⟨w.heap.size, 1, none⟩) (.inr rfl) (.int .i64 (n : Int))).setCell (p := ⟨w.heap.size, 2, none⟩) (.inr rfl) (.int .i64 (i : Int))).setCell (p := ⟨w.heap.size, 3, none⟩) (.inr rfl) (.int .i64 (c : Int))).setCell (p := ⟨w.heap.size, 4, none⟩) (.inr rfl) (.slice none 0 0)).setCell (p := ⟨w.heap.size, 5, none⟩) (.inr rfl) (.slice none 0 0)).setCell (p := ⟨w.heap.size, 6, none⟩) (.inr rfl) (.slice none 0 0))
  refine bodyPost_ret (results_cell_row rfl _ _ w.heap.size 41 _ (0, 0) _ rfl hF Tryz.underlying41 rfl (by kernel_rfl)) rfl ?_
  have hlt : sb < wc.heap.size := hS.lt
  refine ⟨rfl, hS.later hG hlt (fun e => hrs e.symm), ?_⟩
  have hww : w.heap.size ≤ wc.heap.size := Nat.le_trans hB3.size hB.size
  refine (hB3.trans (hB.mono hB3.size (fun _ x => x))).trans ⟨hG.os, hG.tape, hG.output, hG.size, fun k hk _ => hG.block k (by omega) (by omega)⟩

theorem head_ok (sb bb bo cap : Nat) (hbs : bb ≠ sb) (l : List UInt8) (hl : l.length < 2 ^ 60) (hcap : l.length ≤ cap) (w : World) (h : ScR w sb (.slice (some ⟨bb, bo, none⟩) l.length cap) 0 none) (hb : Byt w bb bo l) (hbb : bb < w.heap.size)
    (h1 : fixE l 0 magic1 = none) (h2 : sealE l 0 24 = none) :
    Calls Tryz.prog 28 #[.pointer (some ⟨sb, 0, none⟩)] w fun q w' => q = .returned (.agg (shardL (le l 6 1) (le l 7 1) (le l 8 1) (le l 10 4) (.slice none 0 0) (.slice none 0 0) (.slice none 0 0)).toArray) ∧
      ScR w' sb (.slice (some ⟨bb, bo, none⟩) l.length cap) 0 (headR none (le l 6 1) (le l 7 1) (le l 8 1) (le l 9 1) (le l 10 4) (le l 14 4) (le l 18 4) (le l 22 2)) ∧ But w.heap.size (· = sb) w w' := by
  have h32 : 32 ≤ l.length := by
    unfold sealE at h2
    split at h2
    · cases h2
    · omega
  exact head_core sb bb bo cap hbs l hl hcap w h hb hbb none (by rw [h1, h2]; rfl) (le l) (fun A N a n hA hN hn ha _ hS hB => num_ok A N a n hA hN hn hl hS hB (by omega))
theorem head_err (sb bb bo cap : Nat) (hbs : bb ≠ sb) (l : List UInt8) (hl : l.length < 2 ^ 60) (hcap : l.length ≤ cap) (w : World) (h : ScR w sb (.slice (some ⟨bb, bo, none⟩) l.length cap) 0 none) (hb : Byt w bb bo l) (hbb : bb < w.heap.size)
    (x : Nat × Nat) (h12 : orE (fixE l 0 magic1) (sealE l 0 24) = some x) :
    Calls Tryz.prog 28 #[.pointer (some ⟨sb, 0, none⟩)] w fun q w' => q = .returned (.agg (shardL 0 0 0 0 (.slice none 0 0) (.slice none 0 0) (.slice none 0 0)).toArray) ∧
      ScR w' sb (.slice (some ⟨bb, bo, none⟩) l.length cap) 0 (some x) ∧ But w.heap.size (· = sb) w w' :=
  head_core sb bb bo cap hbs l hl hcap w h hb hbb (some x) h12 (fun _ _ => 0) (fun A N a n hA hN hn _ _ hS hB => num_err A N a n hA hN hn hl x hS hB)
end Go.Proofs.YtlghjjennhpjeaaGreatDoor

/-
  How the document reads a shard: the names and sizes, one behind the other.
-/
namespace Go.Proofs.YtlghjjennhpjeaaGreatDoor
open Go.RowKit Go.Deep

theorem infoS : (Tryz.prog.info? 9).map (fun i => (i.zero, i.size, i.bytes)) = some (some (.string ⟨#[]⟩), 1, 16) := by kernel_rfl
theorem infoI : (Tryz.prog.info? 3).map (fun i => (i.zero, i.size, i.bytes)) = some (some (.int .i64 0), 1, 8) := by kernel_rfl
def strsV (l : List (List UInt8)) : List Value := l.map fun s => Value.string ⟨s.toArray⟩
theorem strV_at {l : List (List UInt8)} {j : Nat} (h : j < l.length) : (strsV l)[j]? = some (.string ⟨(l.getD j []).toArray⟩) := by
  simp [strsV, List.getElem?_map, List.getD_eq_getElem?_getD, List.getElem?_eq_getElem h]

/-- Is a name not behind another? -/
def notBehind (a b : List UInt8) : Bool := Op.bytesLess a b || a == b

/-- What is wrong with the blobs that are still to come (c of them, from a place on), or all names and sizes and the place behind them. -/
def blobsE (l : List UInt8) (en : Nat) : Nat → Nat → List (List UInt8) → List Nat → Except (Nat × Nat) (List (List UInt8) × List Nat × Nat)
  | 0, a, ns, zs => .ok (ns, zs, a)
  | c + 1, a, ns, zs =>
    if en < a + 2 then .error (7, a)
    else if le l a 2 < 1 ∨ 255 < le l a 2 ∨ en < a + 6 + le l a 2 then .error (7, a)
    else if 0 < ns.length ∧ notBehind (part l (a + 2) (le l a 2)) (ns.getD (ns.length - 1) []) = true then .error (7, a + 2)
    else if 65536 < totalS (zs ++ [le l (a + 2 + le l a 2) 4]) then .error (7, a + 2 + le l a 2)
    else blobsE l en c (a + 6 + le l a 2) (ns ++ [part l (a + 2) (le l a 2)]) (zs ++ [le l (a + 2 + le l a 2) 4])

/-- The shard as far as it is read. -/
structure ShX (w : World) (xb : Nat) (k n i c : Nat) (vN vS vC : Value) : Prop where
  row : RowAt w xb (shardL k n i c vN vS vC) 41
theorem ShX.setN {w : World} {xb k n i c : Nat} {vN vS vC : Value} (h : ShX w xb k n i c vN vS vC) (u : Value) : ShX (w.setCell ⟨xb, 4, none⟩ u) xb k n i c u vS vC := ⟨h.row.set 4 u⟩
theorem ShX.setS {w : World} {xb k n i c : Nat} {vN vS vC : Value} (h : ShX w xb k n i c vN vS vC) (u : Value) : ShX (w.setCell ⟨xb, 5, none⟩ u) xb k n i c vN u vC := ⟨h.row.set 5 u⟩
theorem ShX.setC {w : World} {xb k n i c : Nat} {vN vS vC : Value} (h : ShX w xb k n i c vN vS vC) (u : Value) : ShX (w.setCell ⟨xb, 6, none⟩ u) xb k n i c vN vS u := ⟨h.row.set 6 u⟩
theorem ShX.later {w w' : World} {xb k n i c B : Nat} {vN vS vC : Value} {S : Nat → Prop} (h : ShX w xb k n i c vN vS vC) (hb : But B S w w') (h1 : xb < B) (h2 : ¬ S xb) : ShX w' xb k n i c vN vS vC := ⟨h.row.later hb h1 h2⟩

/-- A row that is owned stays, where its block stays. -/
theorem owns_later {w w' : World} {base e size n : Nat} {v : Value} {xs : List Value} (h : w.ownsRow base e size v n xs) (hh : ∀ g, v.ownBlock = some g → w'.heap[g]? = w.heap[g]?) : w'.ownsRow base e size v n xs := by
  refine ⟨h.1, ?_⟩
  rcases h.2 with x | ⟨g, cap, cur, rfl, h1, h2, h3⟩
  · exact .inl x
  · exact .inr ⟨g, cap, cur, rfl, h1, (hh g rfl).trans h2, h3⟩
/-- Two rows lie apart. -/
def Apart2 (a b : Value) : Prop := ∀ g, a.ownBlock = some g → b.ownBlock ≠ some g

theorem conv_part {w : World} {bb bo : Nat} {l : List UInt8} (h : Byt w bb bo l) (k : Nat) (hk : l.length = k) (cap : Nat) : (convert 24 9 (.slice (some ⟨bb, bo, none⟩) k cap)).run Tryz.prog w = .ok (.string ⟨l.toArray⟩) w := by
  subst hk
  refine run_convert_bytes_back w 24 9 5 ⟨bb, bo, none⟩ cap l Tryz.underlying24 Tryz.underlying5 Tryz.underlying9 (fun j hj => ?_)
  rw [add_off, h j hj]
  simp [bAt, List.getD_eq_getElem?_getD, List.getElem?_eq_getElem hj]

/-- The state of the loop over the blobs. -/
structure NmInv (w : World) (sb xb bb bo cap : Nat) (l : List UInt8) (k n i ch : Nat) (vN vS : Value) (ns : List (List UInt8)) (zs : List Nat) (B : Nat) (wr : World) : Prop where
  but : But B (fun k => k = sb ∨ k = xb) w wr
  sc : ScR wr sb (.slice (some ⟨bb, bo, none⟩) l.length cap) 32 none
  sh : ShX wr xb k n i ch vN vS (.slice none 0 0)
  on : wr.ownsRow B 9 1 vN ns.length (strsV ns)
  os : wr.ownsRow B 3 1 vS zs.length (natV zs)
  ap : Apart2 vN vS

/-- The blobs end where the manifest ends. -/
def endE (en : Nat) (r : Except (Nat × Nat) (List (List UInt8) × List Nat × Nat)) : Except (Nat × Nat) (List (List UInt8) × List Nat) :=
  match r with
  | .error e => .error e
  | .ok (ns, zs, a) => if a = en then .ok (ns, zs) else .error (7, a)
def namesE (l : List UInt8) (m : Nat) : Except (Nat × Nat) (List (List UInt8) × List Nat) :=
  match sealE l 32 m with
  | some e => .error e
  | none =>
    if 1000 < le l 32 4 then .error (7, 32)
    else endE (32 + m) (blobsE l (32 + m) (le l 32 4) 36 [] [])

theorem ScR.setAt {w : World} {sb : Nat} {v : Value} {at_ : Nat} {r : Option (Nat × Nat)} (h : ScR w sb v at_ r) (x : Nat) : ScR (w.setCell ⟨sb, 1, none⟩ (.int .i64 (x : Int))) sb v x r := ⟨h.scn.setAt x, h.errs⟩
theorem sealE_len {l : List UInt8} {a n : Nat} (h : sealE l a n = none) : a + n + 8 ≤ l.length := by
  unfold sealE at h
  split at h
  · cases h
  · omega

section
variable (sb xb bb bo cap : Nat) (hbs : bb ≠ sb) (hbx : bb ≠ xb) (hxs : xb ≠ sb) (l : List UInt8) (hl : l.length < 2 ^ 60) (hcap : l.length ≤ cap) (m : Nat) (hm4 : 4 ≤ m) (hm : m ≤ 300000) (k n i ch at0 : Nat)
    (w : World) (h : ScR w sb (.slice (some ⟨bb, bo, none⟩) l.length cap) at0 none) (hx : ShX w xb k n i ch (.slice none 0 0) (.slice none 0 0) (.slice none 0 0)) (hb : Byt w bb bo l) (hbb : bb < w.heap.size)

/-- What is held behind the names. -/
def NamesPost (w : World) (sb xb bb bo cap : Nat) (l : List UInt8) (m k n i ch : Nat) (w' : World) : Prop :=
  But w.heap.size (fun k => k = sb ∨ k = xb) w w' ∧
  match namesE l m with
  | .error e => ScR w' sb (.slice (some ⟨bb, bo, none⟩) l.length cap) 32 (some e)
  | .ok (ns, zs) => ∃ vN vS, NmInv w sb xb bb bo cap l k n i ch vN vS ns zs w.heap.size w'

set_option maxHeartbeats 4000000 in
set_option maxRecDepth 100000 in
include hbs hl hcap hm4 hm h hb hbb in
theorem names_bad (e : Nat × Nat) (he : orE (sealE l 32 m) (if sealE l 32 m = none then mustE (decide (le l 32 4 ≤ 1000)) 7 32 else none) = some e) :
    Calls Tryz.prog 30 #[.pointer (some ⟨sb, 0, none⟩), .pointer (some ⟨xb, 0, none⟩), .int .i64 (m : Int)] w fun q w' => q = .returned (.tuple #[]) ∧ But w.heap.size (fun k => k = sb ∨ k = xb) w w' ∧ ScR w' sb (.slice (some ⟨bb, bo, none⟩) l.length cap) 32 (some e) := by
  have hsb := h.lt
  have c1 := h.scn.c1
  have f1 := RowAt.frozen h.scn 1
  have h0 := h.setAt 32
  have hB0 := (But.refl w.heap.size (· = sb) w).setCell (p := ⟨sb, 1, none⟩) (.inr rfl) (.int .i64 32)
  have hb0 := hb.later hB0 hbb hbs
  obtain ⟨V, hV, hnum, hst⟩ : ∃ V : Nat, V < 2 ^ 32 ∧ (∀ w', ScR w' sb (.slice (some ⟨bb, bo, none⟩) l.length cap) 32 (orE none (sealE l 32 m)) → Byt w' bb bo l →
      Calls Tryz.prog 29 #[.pointer (some ⟨sb, 0, none⟩), .int .i64 32, .int .i64 4] w' fun q w'' => q = .returned (.int .i64 (V : Int)) ∧ w'' = w') ∧
      orE (orE none (sealE l 32 m)) (mustE (decide (V ≤ 1000)) 7 32) = some e := by
    cases hs : sealE l 32 m with
    | none =>
      refine ⟨le l 32 4, le_lt l 4 32, fun w' hS hB => num_ok _ _ 32 4 rfl rfl (by omega) hl hS hB (by have := sealE_len hs; omega), ?_⟩
      rw [hs] at he
      exact he
    | some x =>
      refine ⟨0, by omega, fun w' hS hB => num_err _ _ 32 4 rfl rfl (by omega) hl x hS hB, ?_⟩
      rw [hs] at he
      exact he
  clear he
  have HST : Hid _ := hst
  clear hst
  go_enter Tryz.func30, Tryz.ntmps30
  go_wp2_with (first | (go_at_call 60; refine (seal_r (sb := sb) (bb := bb) (bo := bo) (cap := cap) (l := l) (at_ := 32) (r := none) _ m (by rfl) (by omega) hbs hl hcap (by omega) (by exact h0) (by exact hb0) (by simp; omega)).mono ?_; rintro q w1 ⟨rfl, hS1, hB1⟩; have hb1 := hb0.later hB1 (by simp; omega) hbs) | (go_at_call 29; refine (hnum _ (by exact hS1) (by exact hb1)).mono ?_; rintro q w' ⟨rfl, hw'⟩; obtain rfl := hw'.symm) | (go_at_call 31; refine (must_r (sb := sb) (at_ := 32) (r := orE none (sealE l 32 m)) (decide ((V : Int) ≤ 1000)) _ _ 7 32 (by rfl) (by rfl) (by decide) (by exact hS1)).mono ?_; rintro q w2 ⟨rfl, hS2, hB2⟩))
  have hS3 : ScR w2 sb (.slice (some ⟨bb, bo, none⟩) l.length cap) 32 (some e) := by
    rw [← HST.out]
    exact hS2.ok (by rw [Bool.eq_iff_iff]; simp <;> omega)
  clear hS2 hS1 hnum HST
  have hB3 : But w.heap.size (fun k => k = sb ∨ k = xb) w w2 := by
    have e0 : (w.setCell ⟨sb, 1, none⟩ (.int .i64 32)).heap.size = w.heap.size := by simp
    have := hB0.trans ((hB1.mono (by omega) (fun _ x => x)).trans (hB2.mono (by have := hB1.size; omega) (fun _ x => x)))
    exact this.mono (Nat.le_refl _) (fun _ x => .inl x)
  clear hB0 hB1 hB2 hb1 hb0 h0
  have E0 : Hid (e.1 ≠ 0) := hS3.errs e rfl
  go_loopw [8, 9, 10, 11, 12] (fun va vi _ _ _ wr => wr = w2 ∧ vi = .int .i64 0 ∧ va = .int .i64 36) (fun _ i _ _ _ _ => 1)
  case atStart => exact ⟨rfl, rfl, rfl⟩
  case round =>
    obtain ⟨rfl, rfl, rfl⟩ := hrel
    have c2 : wr.cell? ⟨sb, 2, none⟩ = some (.int .i64 (e.1 : Int)) := hS3.scn.c2
    have hE : ((e.1 : Int) == 0) = false := by have := E0.out; simp; omega
    by_cases hV0 : 0 < V
    · go_wp2_with (first | (go_at_call 31; refine (must_r (sb := sb) (at_ := 32) (r := some e) _ _ _ 7 36 (by rfl) (by rfl) (by decide) (by exact hS3)).mono ?_; rintro q w4 ⟨rfl, hS4, hB4⟩))
      go_end0
      exact ⟨rfl, hB3.trans (hB4.mono hB3.size (fun _ x => .inl x)), hS4⟩
    · have e0 : V = 0 := by omega
      subst e0
      go_wp2_with (first | (go_at_call 31; refine (must_r (sb := sb) (at_ := 32) (r := some e) _ _ _ 7 36 (by rfl) (by rfl) (by decide) (by exact hS3)).mono ?_; rintro q w4 ⟨rfl, hS4, hB4⟩))
      go_end0
      exact ⟨rfl, hB3.trans (hB4.mono hB3.size (fun _ x => .inl x)), hS4⟩
end
end Go.Proofs.YtlghjjennhpjeaaGreatDoor

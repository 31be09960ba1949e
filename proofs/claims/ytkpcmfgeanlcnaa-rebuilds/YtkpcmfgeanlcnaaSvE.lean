/-
  A list of bytes times a factor; a multiple of a list added to another: run alone.
-/
import Derived.Test.YtkpcmfgeanlcnaaSvD
import Derived.Test.YtkpcmfgeanlcnaaGjB
import Derived.Deep.WholeRow
namespace Go.Proofs.Ytkpcmfgeanlcnaa
open Go.RowKit Go.Deep

/-- Blocks of S may have turned. -/
structure Oth (S : Nat → Prop) (w w' : World) : Prop where
  os : w'.os = w.os
  tape : w'.tape = w.tape
  output : w'.output = w.output
  size : w.heap.size ≤ w'.heap.size
  block : ∀ k, k < w.heap.size → ¬ S k → w'.heap[k]? = w.heap[k]?
theorem Oth.refl (S : Nat → Prop) (w : World) : Oth S w w := ⟨rfl, rfl, rfl, Nat.le_refl _, fun _ _ _ => rfl⟩
theorem Oth.below {S : Nat → Prop} {w w' : World} (h : Below w.heap.size w w') : Oth S w w' := ⟨h.os, h.tape, h.output, h.size, fun k hk _ => h.block k hk⟩
theorem Oth.trans {S S' : Nat → Prop} {w w' w'' : World} (h : Oth S w w') (h' : Oth S' w' w'') (hs : ∀ k, k < w.heap.size → S' k → S k) : Oth S w w'' :=
  ⟨h'.os.trans h.os, h'.tape.trans h.tape, h'.output.trans h.output, Nat.le_trans h.size h'.size, fun k hk hn => (h'.block k (Nat.lt_of_lt_of_le hk h.size) fun x => hn (hs k hk x)).trans (h.block k hk hn)⟩
theorem Oth.mono {S S' : Nat → Prop} {w w' : World} (h : Oth S w w') (hs : ∀ k, S k → S' k) : Oth S' w w' := ⟨h.os, h.tape, h.output, h.size, fun k hk hn => h.block k hk fun x => hn (hs k x)⟩
theorem Oth.set {S : Nat → Prop} {w w' : World} (h : Oth S w w') {a : Addr} (ha : S a.block ∨ w.heap.size ≤ a.block) (v : Value) : Oth S w (w'.setCell a v) :=
  ⟨h.os, h.tape, h.output, by simpa using h.size, fun k hk hn => (heap_setCell_other w' a k v (by rcases ha with x | x; exact fun e => hn (e ▸ x); omega)).trans (h.block k hk hn)⟩
theorem Oth.alloc {S : Nat → Prop} {w w' : World} (h : Oth S w w') (o : Obj) : Oth S w (w'.alloc o) := h.trans (S' := fun _ => False) (.below ((Below.refl _ _).alloc (Nat.le_refl _) _)) (fun _ _ x => x.elim)
theorem Oth.drew {S : Nat → Prop} {w w' : World} (h : Oth S w w') : Oth S w w'.drew := ⟨h.os, h.tape, h.output, h.size, h.block⟩
theorem Oth.row {S : Nat → Prop} {w w' : World} (h : Oth S w w') {b n : Nat} {t : TypeId} {f : Nat → Value} (hb : b < w.heap.size) (hn : ¬ S b) (hr : w.rowIs b t n f) : w'.rowIs b t n f := hr.of_block (h.block b hb hn)

def fv (a : Nat → F) (j : Nat) : Value := .int .u8 ((a j).val : Int)
theorem run_tab {T : Array Value} (hT : T.size = 256) (h1 : ∀ v ∈ T, v.oneCell' = true) (w : World) : (storeCells ⟨w.heap.size, 0, none⟩ T.toList).run Try.prog (w.alloc (.cells Try.zeroCells93 93)) = .ok () (w.alloc (.cells T 93)) := by
  rw [run_cells256 (heap_alloc_new _ _) (by rw [ptab_zero 0]; exact ptab_size 0 0) hT h1, World.setRow_alloc_new]

set_option maxHeartbeats 2000000 in
set_option maxRecDepth 100000 in
theorem scale_any (b k cap : Nat) (a : Nat → F) (f : F) (w : World) (hk : k ≤ 128) (hr : w.rowIs b 5 k (fv a)) (hb : b < w.heap.size) :
    Calls Try.prog 44 #[.slice (some ⟨b, 0, none⟩) k cap, .int .u8 (f.val : Int)] w fun e w' => e = .returned (.tuple #[]) ∧ w'.rowIs b 5 k (fv (F.scaled f a)) ∧ Oth (· = b) w w' := by
  have hpr := products_any f.val f.isLt
  have hrun := run_tab (ptab_size f.val 256) (ptab_one f.val 256)
  have hget : ∀ x, x < 256 → (ptab f.val 256)[x]? = some (.int .u8 ((mul x f.val : Nat) : Int)) := fun x hx => by rw [ptab_get _ _ _ hx, if_pos hx]
  have hsz := ptab_size f.val 256
  generalize ptab f.val 256 = T at hpr hrun hget hsz
  have hfv : ∀ j, (F.scaled f a j).val = mul (a j).val f.val := fun _ => rfl
  generalize hfn : f.val = fn at hpr hget hfv ⊢
  clear hfn
  go_enter Try.func44, Try.ntmps44
  go_wp2_with (first | (go_at_call 65; (with_reducible refine (hpr _).mono ?_); rintro e w1 ⟨rfl, hb1⟩; have hrun1 := hrun w1))
  have hw0 : Oth (· = b) w (w1.alloc (.cells T 93)) := (Oth.below hb1).alloc _
  have htab : (w1.alloc (.cells T 93)).heap[w1.heap.size]? = some (.cells T 93) := heap_alloc_new _ _
  have hbn : b < w1.heap.size := Nat.lt_of_lt_of_le hb hb1.size
  have hr1 : (w1.alloc (.cells T 93)).rowIs b 5 k (fv a) := (hr.of_block (hb1.block b hb)).alloc _
  have hwn := hb1.size
  generalize w1.heap.size = N at *
  generalize w1.alloc (.cells T 93) = w2 at hw0 htab hr1 ⊢
  clear hrun hrun1 hb1 hpr
  go_loopw [11] (fun vj wr => ∃ c : Nat, c ≤ k ∧ vj = .int .i64 (c : Int) ∧ wr.rowIs b 5 k (fun j => if j < c then fv (F.scaled f a) j else fv a j) ∧ Oth (· = b) w wr ∧ wr.heap[N]? = some (.cells T 93)) (fun j _ => k - (intOf j).toNat)
  case atStart => exact ⟨0, by omega, rfl, hr1.congr (fun j _ => by rw [if_neg (by omega)]), hw0, htab⟩
  case round =>
    clear hr1 hw0 htab
    obtain ⟨c, hc, rfl, hR, hO, hT⟩ := hrel
    by_cases hlt : c < k
    · have hlt' : (c : Int) < (k : Int) := by omega
      have c1 : wr.cell? ⟨b, c, none⟩ = some (.int .u8 ((a c).val : Int)) := by
        have := hR.cell hlt
        rw [if_neg (by omega)] at this
        exact this
      have fz := hR.frozen c
      have hax := (a c).isLt
      have c2 : wr.cell? ⟨N, (a c).val, none⟩ = some (.int .u8 ((mul (a c).val fn : Nat) : Int)) := by rw [cell_of _ hT, hget _ hax]
      have hR2 := hR.set c (.int .u8 ((mul (a c).val fn : Nat) : Int))
      have hR3 : (wr.setCell ⟨b, c, none⟩ (.int .u8 ((mul (a c).val fn : Nat) : Int))).rowIs b 5 k (fun j => if j < c + 1 then fv (F.scaled f a) j else fv a j) := hR2.congr fun j _ => by
        by_cases e : j = c
        · subst e
          rw [if_pos rfl, if_pos (by omega), fv, hfv]
        · rw [if_neg e]
          by_cases h : j < c
          · rw [if_pos h, if_pos (by omega)]
          · rw [if_neg h, if_neg (by omega)]
      have hO2 := hO.set (a := ⟨b, c, none⟩) (.inl rfl) (.int .u8 ((mul (a c).val fn : Nat) : Int))
      have hT2 := (heap_setCell_other wr ⟨b, c, none⟩ N (.int .u8 ((mul (a c).val fn : Nat) : Int)) (by show N ≠ b; omega)).trans hT
      clear hR2 hget hfv
      generalize mul (a c).val fn = q at *
      generalize (a c).val = x at *
      go_wp2
      go_roundw
      case rel => exact ⟨c + 1, by omega, by go_num, hR3, hO2, hT2⟩
      case measure => simp [intOf]; omega
    · obtain rfl : c = k := by omega
      have hnl : ¬ ((c : Int) < (c : Int)) := by omega
      go_wp2
      go_end0
      exact ⟨rfl, hR.congr fun j hj => by rw [if_pos hj], hO⟩

theorem added_zero (a q : Nat → F) : F.added 0 a q = a := by
  funext j
  rw [F.added, F.mu_zero, F.add_zero]

set_option maxHeartbeats 2000000 in
set_option maxRecDepth 100000 in
theorem addTimes_any (b b2 k cap cap2 : Nat) (a a2 : Nat → F) (f : F) (w : World) (hk : k ≤ 128) (hr : w.rowIs b 5 k (fv a)) (hr2 : w.rowIs b2 5 k (fv a2)) (hb : b < w.heap.size) (hb2 : b2 < w.heap.size) (hne : b2 ≠ b) :
    Calls Try.prog 59 #[.slice (some ⟨b, 0, none⟩) k cap, .int .u8 (f.val : Int), .slice (some ⟨b2, 0, none⟩) k cap2] w fun e w' => e = .returned (.tuple #[]) ∧ w'.rowIs b 5 k (fv (F.added f a a2)) ∧ Oth (· = b) w w' := by
  by_cases hz : f = 0
  · subst hz
    rw [added_zero, show ((0 : F).val : Int) = 0 from rfl]
    go_enter Try.func59, Try.ntmps59
    go_wp2
    refine bodyPost_ret (results_none rfl _ _ _) rfl ?_
    exact ⟨rfl, hr, Oth.refl _ _⟩
  have hpr := products_any f.val f.isLt
  have hrun := run_tab (ptab_size f.val 256) (ptab_one f.val 256)
  have hget : ∀ x, x < 256 → (ptab f.val 256)[x]? = some (.int .u8 ((mul x f.val : Nat) : Int)) := fun x hx => by rw [ptab_get _ _ _ hx, if_pos hx]
  have hsz := ptab_size f.val 256
  generalize ptab f.val 256 = T at hpr hrun hget hsz
  have hfv : ∀ j, (F.added f a a2 j).val = (a j).val ^^^ mul (a2 j).val f.val := fun _ => rfl
  have hz' : ((f.val : Int) == 0) = false := by
    simp only [beq_eq_false_iff_ne, ne_eq]
    intro e
    exact hz (Fin.ext (by show f.val = 0; omega))
  have hml : ∀ j, mul (a2 j).val f.val < 256 := fun j => mul_lt (a2 j).isLt
  generalize hfn : f.val = fn at hpr hget hfv hz' hml ⊢
  clear hfn
  go_enter Try.func59, Try.ntmps59
  go_wp2_with (first | (go_at_call 65; (with_reducible refine (hpr _).mono ?_); rintro e w1 ⟨rfl, hb1⟩; have hrun1 := hrun w1))
  have hw0 : Oth (· = b) w (w1.alloc (.cells T 93)) := (Oth.below hb1).alloc _
  have htab : (w1.alloc (.cells T 93)).heap[w1.heap.size]? = some (.cells T 93) := heap_alloc_new _ _
  have hbn : b < w1.heap.size := Nat.lt_of_lt_of_le hb hb1.size
  have hbn2 : b2 < w1.heap.size := Nat.lt_of_lt_of_le hb2 hb1.size
  have hr1 : (w1.alloc (.cells T 93)).rowIs b 5 k (fv a) := (hr.of_block (hb1.block b hb)).alloc _
  have hwn := hb1.size
  generalize w1.heap.size = N at *
  generalize w1.alloc (.cells T 93) = w2 at hw0 htab hr1 ⊢
  clear hrun hrun1 hb1 hpr
  go_loopw [15] (fun vj wr => ∃ c : Nat, c ≤ k ∧ vj = .int .i64 (c : Int) ∧ wr.rowIs b 5 k (fun j => if j < c then fv (F.added f a a2) j else fv a j) ∧ Oth (· = b) w wr ∧ wr.heap[N]? = some (.cells T 93)) (fun j _ => k - (intOf j).toNat)
  case atStart => exact ⟨0, by omega, rfl, hr1.congr (fun j _ => by rw [if_neg (by omega)]), hw0, htab⟩
  case round =>
    clear hr1 hw0 htab
    obtain ⟨c, hc, rfl, hR, hO, hT⟩ := hrel
    by_cases hlt : c < k
    · have hlt' : (c : Int) < (k : Int) := by omega
      have c1 : wr.cell? ⟨b, c, none⟩ = some (.int .u8 ((a c).val : Int)) := by
        have := hR.cell hlt
        rw [if_neg (by omega)] at this
        exact this
      have fz := hR.frozen c
      have hax := (a c).isLt
      have hax2 := (a2 c).isLt
      have c3 : wr.cell? ⟨b2, c, none⟩ = some (.int .u8 ((a2 c).val : Int)) := (hO.row hb2 hne hr2).cell hlt
      have c2 : wr.cell? ⟨N, (a2 c).val, none⟩ = some (.int .u8 ((mul (a2 c).val fn : Nat) : Int)) := by rw [cell_of _ hT, hget _ hax2]
      have hml1 := hml c
      have hx := u8_xor_nat _ _ hax hml1
      have hR2 := hR.set c (.int .u8 (((a c).val ^^^ mul (a2 c).val fn : Nat) : Int))
      have hR3 : (wr.setCell ⟨b, c, none⟩ (.int .u8 (((a c).val ^^^ mul (a2 c).val fn : Nat) : Int))).rowIs b 5 k (fun j => if j < c + 1 then fv (F.added f a a2) j else fv a j) := hR2.congr fun j _ => by
        by_cases e : j = c
        · subst e
          rw [if_pos rfl, if_pos (by omega), fv, hfv]
        · rw [if_neg e]
          by_cases h : j < c
          · rw [if_pos h, if_pos (by omega)]
          · rw [if_neg h, if_neg (by omega)]
      have hO2 := hO.set (a := ⟨b, c, none⟩) (.inl rfl) (.int .u8 (((a c).val ^^^ mul (a2 c).val fn : Nat) : Int))
      have hT2 := (heap_setCell_other wr ⟨b, c, none⟩ N (.int .u8 (((a c).val ^^^ mul (a2 c).val fn : Nat) : Int)) (by show N ≠ b; omega)).trans hT
      clear hR2 hget hfv hml
      generalize (a c).val ^^^ mul (a2 c).val fn = r at *
      generalize mul (a2 c).val fn = q at *
      generalize (a c).val = x at *
      generalize (a2 c).val = x2 at *
      go_wp2
      go_region
      have hR4 := hR3.drew
      have hO4 := hO2.drew
      have hT4 : (wr.setCell ⟨b, c, none⟩ (.int .u8 (r : Int))).drew.heap[N]? = some (.cells T 93) := hT2
      generalize (wr.setCell ⟨b, c, none⟩ (.int .u8 (r : Int))).drew = wz at hR4 hO4 hT4 ⊢
      clear hR3 hO2 hT2
      go_wp2
      go_roundw
      case rel => exact ⟨c + 1, by omega, by go_num, hR4, hO4, hT4⟩
      case measure => simp [intOf]; omega
    · obtain rfl : c = k := by omega
      have hnl : ¬ ((c : Int) < (c : Int)) := by omega
      go_wp2
      go_end0
      exact ⟨rfl, hR.congr fun j hj => by rw [if_pos hj], hO⟩
end Go.Proofs.Ytkpcmfgeanlcnaa

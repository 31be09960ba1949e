/-
  How the document reads a shard: bytes and their sum come (seal).
-/
import Derived.Test.YtkpcmfgeanlcnaaDoorScanC
import Derived.StillTailTactics
namespace Go.Proofs.YtkpcmfgeanlcnaaDoor
open Go.RowKit Go.Deep

/-- n of the bytes, from a place on. -/
def part (l : List UInt8) (a n : Nat) : List UInt8 := (l.drop a).take n
theorem part_length {l : List UInt8} {a n : Nat} (h : a + n ≤ l.length) : (part l a n).length = n := by simp [part]; omega
theorem part_at {l : List UInt8} {a n i : Nat} (hi : i < n) : bAt (part l a n) i = bAt l (a + i) := by
  simp [bAt, part, List.getD_eq_getElem?_getD, hi]
theorem Byt.part {w : World} {bb bo : Nat} {l : List UInt8} (h : Byt w bb bo l) {a n : Nat} (hn : a + n ≤ l.length) : Byt w bb (bo + a) (part l a n) := by
  intro i hi
  rw [part_length hn] at hi
  rw [part_at hi, Nat.add_assoc]
  exact h (a + i) (by omega)

/-- n bytes and their sum come from a place on, or what is wrong and where. -/
def sealE (l : List UInt8) (a n : Nat) : Option (Nat × Nat) :=
  if l.length < a + n + 8 then some (4, l.length) else if part l (a + n) 8 = leB 8 (sumOf (part l a n)) then none else some (6, a + n)

theorem mixed : Tryd.prog.follows .mixedOrders = true := by kernel_rfl

theorem take_next {a b : List UInt8} {c : Nat} (ha : c < a.length) (hb : c < b.length) : a.take (c + 1) = b.take (c + 1) ↔ a.take c = b.take c ∧ bAt a c = bAt b c := by
  rw [List.take_succ_eq_append_getElem ha, List.take_succ_eq_append_getElem hb]
  have e1 : bAt a c = a[c].toNat := by simp [bAt, List.getD_eq_getElem?_getD, List.getElem?_eq_getElem ha]
  have e2 : bAt b c = b[c].toNat := by simp [bAt, List.getD_eq_getElem?_getD, List.getElem?_eq_getElem hb]
  rw [e1, e2]
  constructor
  · intro h
    have := List.append_inj h (by simp; omega)
    exact ⟨this.1, by rw [(List.cons.inj this.2).1]⟩
  · rintro ⟨h1, h2⟩
    rw [h1, UInt8.toNat_inj.1 h2]
set_option maxRecDepth 100000 in
theorem index_at (bb bo len cap : Nat) (I : Int) (i : Nat) (hI : I = i) (hi : i < len) : ∀ w, (Instr.indexAt 24 (.slice (some ⟨bb, bo, none⟩) len cap) (.int .i64 I)).run Tryd.prog w = .ok (.pointer (some ⟨bb, bo + i, none⟩)) w := by
  intro w
  subst hI
  have h1 : (i : Int) < (len : Int) := by omega
  simp [go_sem, h1, add_off]
theorem wp_region_tail {P : Program} {id : Nat} {Q : Exit → Act → World → Prop} {a : Act} {w : World} {l : List Oper} (n : Nat) (hm : P.follows .mixedOrders = true) (hB : Region.lexTailB .any l.toArray n = true)
    (h : wpStill P l.toArray w.drew (fun a' => wpList P l.toArray Q (l.drop n) a' w.drew) (l.take n) a) : (Code.region id l.toArray true).wp P Q a w := wp_region_still_tail n hm hB h
set_option maxRecDepth 100000 in
theorem slice_part (bb bo len cap : Nat) (L H : Int) (a h : Nat) (hL : L = a) (hH : H = h) (hah : a ≤ h) (hc : h ≤ cap) (ha : a < cap) : ∀ w, (Instr.slice 24 (.slice (some ⟨bb, bo, none⟩) len cap) (some (.int .i64 L)) (some (.int .i64 H)) none).run Tryd.prog w = .ok (.slice (some ⟨bb, bo + a, none⟩) (h - a) (cap - a)) w := by
  intro w
  subst hL hH
  have hu : Tryd.prog.underlying 24 = some (.slice (Tryd.prog.elem 24)) := Tryd.underlying24
  rw [run_slice_lh w 24 _ _ _ hu .i64 .i64 a h (by omega) (by omega) (by omega)]
  have hsz : (sizeOf (Tryd.prog.elem 24)).run Tryd.prog w = .ok 1 w := by
    simp [sizeOf, go_sem]
    rfl
  rw [hsz]
  simp only [Result.andThen, sliced, Int.toNat_natCast, Nat.mul_one]
  rw [if_neg (by omega)]
  simp [add_off]
set_option maxHeartbeats 4000000 in
set_option maxRecDepth 100000 in
theorem seal_any (sb : Nat) (N : Int) (n : Nat) (hN : N = n) (hn : n < 2 ^ 30) (bb bo cap : Nat) (hbs : bb ≠ sb) (l : List UInt8) (hl : l.length < 2 ^ 60) (hcap : l.length ≤ cap) (at_ e p : Nat) (ha : at_ < 2 ^ 59) (w : World) (h : Scn w sb (.slice (some ⟨bb, bo, none⟩) l.length cap) at_ e p) (hb : Byt w bb bo l) (hbb : bb < w.heap.size) :
    Calls Tryd.prog 72 #[.pointer (some ⟨sb, 0, none⟩), .int .i64 N] w fun r w' => r = .returned (.tuple #[]) ∧ Scn w' sb (.slice (some ⟨bb, bo, none⟩) l.length cap) at_ (eOf (sealE l at_ n) e) (pOf (sealE l at_ n) e p) ∧ But w.heap.size (· = sb) w w' := by
  subst hN
  have hsb := RowAt.lt h
  have c0 := h.c0
  have c1 := h.c1
  have c2 := h.c2
  go_enter Tryd.func72, Tryd.ntmps72
  by_cases he : e = 0
  · subst he
    by_cases hsh : l.length < at_ + n + 8
    · have H2 : Hid (sealE l at_ n = some (4, l.length)) := by show sealE l at_ n = _; unfold sealE; rw [if_pos hsh]
      have hsh' : (l.length : Int) < (at_ : Int) + (n : Int) + 8 := by omega
      clear hsh
      go_wp2
      go_quiet (fail)
      go_wp2_with (first | (go_at_call 73; refine (err_any sb _ _ 4 l.length (by rfl) (by rfl) _ at_ 0 p _ (by exact h.heap rfl)).mono ?_; rintro r w' ⟨rfl, h1, b1⟩))
      refine bodyPost_ret (results_none rfl _ _ _) rfl ?_
      exact ⟨rfl, by rw [H2.out]; exact h1, ((But.refl _ _ _).drewN _).trans b1⟩
    · have hsh' : decide ((l.length : Int) < (at_ : Int) + (n : Int) + 8) = false := by simp; omega
      have hy1 := hb.part (a := at_) (n := n) (by omega)
      have hpl : (part l at_ n).length = n := part_length (by omega)
      go_wp2
      go_quiet (fail)
      go_wp2
      have hsl := slice_part bb bo l.length cap (at_ : Int) ((at_ : Int) + (n : Int)) at_ (at_ + n) rfl (by simp) (by omega) (by omega) (by omega)
      have hwr : IntKind.i64.wrap ((at_ : Int) + (n : Int)) = (at_ : Int) + (n : Int) := IntWalk.i64_in _ (by omega)
      refine wp_region_tail 15 mixed (by kernel_rfl) ?_
      simp only [List.take_succ_cons, List.take_zero, List.drop_succ_cons, List.drop_zero]
      repeat still_step
      refine wpStill_nil ?_
      clear hsl hwr
      go_wp2_with (first | (go_at_call 71; refine (sealed_of bb (bo + at_) n (cap - at_) (part l at_ n) hpl (by omega) _ (by exact hy1) (by exact hbb)).mono ?_; rintro r w1 ⟨g, gc, rfl, hg0, hg1, hgb, hw1⟩))
      have hB1 : But w.heap.size (· = sb) w w1 := ((But.refl _ _ _).drewN _).trans (.of_below hw1)
      have hS1 : Scn w1 sb (.slice (some ⟨bb, bo, none⟩) l.length cap) at_ 0 p := by
        have hh : w1.heap[sb]? = w.heap[sb]? := hw1.block sb hsb
        unfold Scn RowAt at *
        rw [hh]; exact h
      have hy : Byt w1 bb bo l := hb.later hB1 hbb hbs
      have hbb1 : bb < w1.heap.size := Nat.lt_of_lt_of_le hbb hB1.size
      have hsb1 : sb < w1.heap.size := RowAt.lt hS1
      have hgs : g ≠ sb := by
        have : w.heap.size ≤ g := hg0
        omega
      clear hy1 hpl hw1 hg0 c0 c1 c2 h hb
      obtain ⟨q, eq⟩ : ∃ q, leB 8 (sumOf (part l at_ n)) = q := ⟨_, rfl⟩
      have hq8 : q.length = 8 := by rw [← eq, leB_length]
      have hq : ∀ c, c < 8 → w1.cell? ⟨g, n + c, none⟩ = some (.int .u8 (bAt q c : Int)) := by
        intro c hc
        have hpl : (part l at_ n).length = n := part_length (by omega)
        have := hgb (n + c) (by rw [List.length_append, hpl, eq, hq8]; omega)
        rw [Nat.zero_add, eq] at this
        rw [this]
        simp only [bAt, List.getD_eq_getElem?_getD]
        rw [List.getElem?_append_right (by omega), hpl, Nat.add_sub_cancel_left]
      have HE : Hid (sealE l at_ n = if part l (at_ + n) 8 = q then none else some (6, at_ + n)) := by
        show sealE l at_ n = _
        unfold sealE
        rw [if_neg (by omega), eq]
      clear eq hgb hsh'
      go_loopw [5] (fun vi wr => ∃ c : Nat, c ≤ 8 ∧ vi = .int .i64 ((n + c : Nat) : Int) ∧ But w1.heap.size (· = sb) w1 wr ∧
        Scn wr sb (.slice (some ⟨bb, bo, none⟩) l.length cap) at_ (if (part l (at_ + n) 8).take c = q.take c then 0 else 6) (if (part l (at_ + n) 8).take c = q.take c then p else at_ + n)) (fun i _ => n + 8 - (intOf i).toNat)
      case atStart => exact ⟨0, by omega, by simp, But.refl _ _ _, by simpa using hS1⟩
      case round =>
        obtain ⟨c, hc, rfl, hB, hS⟩ := hrel
        by_cases hlt : c < 8
        · have c0 := hS.c0
          have c1 := hS.c1
          have hcell := (hy.later hB hbb1 hbs) (at_ + (n + c)) (by omega)
          have hcq := (hB.cell (p := ⟨g, n + c, none⟩) hg1 hgs).trans (hq c hlt)
          obtain ⟨x, ex⟩ : ∃ x, bAt q c = x := ⟨_, rfl⟩
          obtain ⟨y, ey⟩ : ∃ y, bAt l (at_ + (n + c)) = y := ⟨_, rfl⟩
          have hpl : (part l (at_ + n) 8).length = 8 := part_length (by omega)
          have hnext := take_next (a := part l (at_ + n) 8) (b := q) (c := c) (by omega) (by omega)
          rw [part_at hlt, Nat.add_assoc, ex, ey] at hnext
          rw [ex] at hcq
          rw [ey] at hcell
          have HN : Hid ((part l (at_ + n) 8).take (c + 1) = q.take (c + 1) ↔ (part l (at_ + n) 8).take c = q.take c ∧ y = x) := hnext
          have hwr : IntKind.i64.wrap ((at_ : Int) + (n : Int)) = (at_ : Int) + (n : Int) := IntWalk.i64_in _ (by omega)
          have hwr2 : IntKind.i64.wrap ((at_ : Int) + ((n : Int) + (c : Int))) = (at_ : Int) + ((n : Int) + (c : Int)) := IntWalk.i64_in _ (by omega)
          have hi1 := index_at g 0 (n + 8) gc ((n : Int) + (c : Int)) (n + c) (by simp) (by omega)
          have hi2 := index_at bb bo l.length cap ((at_ : Int) + ((n : Int) + (c : Int))) (at_ + (n + c)) (by simp) (by omega)
          rw [Nat.zero_add] at hi1
          generalize hee : (if (part l (at_ + n) 8).take c = q.take c then 0 else 6) = ee at hS
          generalize hpp : (if (part l (at_ + n) 8).take c = q.take c then p else at_ + n) = pp at hS
          have HEE : Hid (_ = ee) := hee
          have HPP : Hid (_ = pp) := hpp
          clear hee hpp hnext ex ey hpl hq hy hS1 HE
          go_wp2
          refine wp_region_tail 24 mixed (by kernel_rfl) ?_
          simp only [List.take_succ_cons, List.take_zero, List.drop_succ_cons, List.drop_zero]
          repeat still_step
          refine wpStill_nil ?_
          clear hi1 hi2 hwr hwr2 c0 c1 hcell hcq
          go_wp2_with (first | (go_at_call 42; refine (must_any sb ((x : Int) == (y : Int)) _ _ 6 (at_ + n) (by rfl) (by simp) _ at_ ee pp _ (by exact hS.heap rfl)).mono ?_; rintro r w' ⟨rfl, h1, b1⟩))
          go_roundw
          case rel =>
            refine ⟨c + 1, by omega, by go_num, (hB.drewN _).trans (b1.mono hB.size (fun _ x => x)), ?_⟩
            have e1 : (if ((x : Int) == (y : Int)) = true then ee else first ee 6) = if (part l (at_ + n) 8).take (c + 1) = q.take (c + 1) then 0 else 6 := by
              rw [← HEE.out]
              by_cases hA : (part l (at_ + n) 8).take c = q.take c
              · by_cases hxy : y = x
                · rw [if_pos (HN.out.2 ⟨hA, hxy⟩), hxy, if_pos hA]; simp
                · rw [if_neg (fun hh => hxy (HN.out.1 hh).2), if_pos hA, if_neg (by simp; omega)]; rfl
              · rw [if_neg (fun hh => hA (HN.out.1 hh).1), if_neg hA]; simp [first]
            have e2 : (if ((x : Int) == (y : Int)) = true then pp else firstP ee pp (at_ + n)) = if (part l (at_ + n) 8).take (c + 1) = q.take (c + 1) then p else at_ + n := by
              rw [← HEE.out, ← HPP.out]
              by_cases hA : (part l (at_ + n) 8).take c = q.take c
              · by_cases hxy : y = x
                · rw [if_pos (HN.out.2 ⟨hA, hxy⟩), hxy, if_pos hA]; simp
                · rw [if_neg (fun hh => hxy (HN.out.1 hh).2), if_pos hA, if_neg (by simp; omega)]; simp [firstP, hA]
              · rw [if_neg (fun hh => hA (HN.out.1 hh).1), if_neg hA]; simp [firstP, hA]
            rw [← e1, ← e2]
            exact h1
          case measure => simp [intOf]; omega
        · have e8 : c = 8 := by omega
          subst e8
          go_wp2
          refine bodyPost_end (results_none rfl _ _ _) rfl ?_
          have hpl : (part l (at_ + n) 8).length = 8 := part_length (by omega)
          refine ⟨rfl, ?_, hB1.trans (hB.mono hB1.size (fun _ x => x))⟩
          have t1 : (part l (at_ + n) 8).take 8 = part l (at_ + n) 8 := List.take_of_length_le (by omega)
          have t2 : q.take 8 = q := List.take_of_length_le (by omega)
          rw [t1, t2] at hS
          rw [HE.out]
          by_cases hA : part l (at_ + n) 8 = q
          · rw [if_pos hA] at hS ⊢
            rw [if_pos hA] at hS
            exact hS
          · rw [if_neg hA] at hS ⊢
            rw [if_neg hA] at hS
            exact hS
  · have he' : ((e : Int) == 0) = false := by simp; omega
    have E : Hid (¬ e = 0) := he
    clear he
    go_wp2
    refine bodyPost_ret (results_none rfl _ _ _) rfl ?_
    exact ⟨rfl, by rw [eOf_err E.out, pOf_err E.out]; exact h, But.refl _ _ _⟩
end Go.Proofs.YtkpcmfgeanlcnaaDoor

/-
  How the document seals bytes: their sum behind them.
-/
import Derived.Test.YtlghjjennhpjeaaGreatDoorScanB
import Derived.StillTailTactics
import Derived.Lib.AppendStr
import Derived.Maps.AppendAt
import Derived.BigQuiet
import Derived.Deep.QuietTactic
namespace Go.Proofs.YtlghjjennhpjeaaGreatDoor
open Go.RowKit Go.Deep

theorem infoB8 : (Tryz.prog.info? 5).map (fun i => (i.zero, i.size, i.bytes)) = some (some (.int .u8 0), 1, 1) := by kernel_rfl
def u8V (l : List UInt8) : List Value := l.map fun b => Value.int .u8 (b.toNat : Int)
theorem u8V_length (l : List UInt8) : (u8V l).length = l.length := by simp [u8V]
theorem u8V_at {l : List UInt8} {j : Nat} {u : Value} (h : (u8V l)[j]? = some u) : j < l.length ∧ u = .int .u8 (bAt l j : Int) := by
  obtain ⟨hj, e⟩ := List.getElem?_eq_some_iff.1 h
  have hj' : j < l.length := by simpa [u8V] using hj
  refine ⟨hj', ?_⟩
  rw [← e]
  simp only [u8V, List.getElem_map, bAt, List.getD_eq_getElem?_getD, List.getElem?_eq_getElem hj', Option.getD_some]
theorem u8V_one (l : List UInt8) : ∀ u ∈ u8V l, u.oneCell' = true := by
  intro u hu
  simp only [u8V, List.mem_map] at hu
  obtain ⟨b, _, rfl⟩ := hu
  rfl
theorem add_off (b off j : Nat) : (⟨b, off, none⟩ : Addr).add j = ⟨b, off + j, none⟩ := by
  unfold Addr.add
  by_cases h : j = 0 <;> simp [h]
theorem Byt.news {w : World} {bb bo : Nat} {l : List UInt8} (h : Byt w bb bo l) : ∀ j u, (u8V l)[j]? = some u → w.cell? ((⟨bb, bo, none⟩ : Addr).add j) = some u := by
  intro j u hj
  obtain ⟨h1, rfl⟩ := u8V_at hj
  rw [add_off]; exact h j h1

/-- A number's bytes, the lowest first. -/
def leB : Nat → Nat → List UInt8
  | 0, _ => []
  | n + 1, v => UInt8.ofNat (v % 256) :: leB n (v / 256)
theorem leB_length : ∀ n v, (leB n v).length = n
  | 0, _ => rfl
  | n + 1, v => by simp [leB, leB_length n]
theorem leB_snoc : ∀ n v, leB (n + 1) v = leB n v ++ [UInt8.ofNat (v / 256 ^ n % 256)]
  | 0, v => by simp [leB]
  | n + 1, v => by
    show UInt8.ofNat (v % 256) :: leB (n + 1) (v / 256) = (UInt8.ofNat (v % 256) :: leB n (v / 256)) ++ _
    rw [leB_snoc n (v / 256), List.cons_append, Nat.div_div_eq_div_mul, Nat.pow_succ, Nat.mul_comm]
/-- The sum of bytes. -/
def sumOf (l : List UInt8) : Nat := crc (l.map UInt8.toNat)
theorem map_getD (l : List UInt8) (i : Nat) : (l.map UInt8.toNat).getD i 0 = bAt l i := by
  simp only [bAt, List.getD_eq_getElem?_getD, List.getElem?_map]
  cases l[i]? <;> rfl
theorem u8V_snoc (l : List UInt8) (x : Nat) (hx : x < 256) (m : List UInt8) (e : m = l ++ [UInt8.ofNat x]) : u8V l ++ [.int .u8 (x : Int)] = u8V m := by
  subst e
  simp only [u8V, List.map_append, List.map_cons, List.map_nil]
  rw [UInt8.toNat_ofNat', Nat.mod_eq_of_lt (by simpa using hx)]

theorem rsum_any (bb bo cap : Nat) (l : List UInt8) (hl : l.length < 2 ^ 60) (w : World) (hb : Byt w bb bo l) :
    Calls Tryz.prog 117 #[.slice (some ⟨bb, bo, none⟩) l.length cap] w fun e w' => e = .returned (.int .u64 (sumOf l : Nat)) ∧ w' = w :=
  rsum_row bb bo l.length cap (l.map UInt8.toNat) (by simp) (fun i _ => by rw [map_getD]; exact bAt_lt l i) (by omega) w (fun i hi => by rw [map_getD]; exact hb i hi)

theorem one_u8' (x : Int) : ∀ u ∈ [Value.int .u8 x], u.oneCell' = true := by intro u hu; simp at hu; subst hu; rfl
theorem sumOf_lt (l : List UInt8) : sumOf l < 2 ^ 64 := crc_lt _

set_option maxHeartbeats 1600000 in
set_option maxRecDepth 100000 in
theorem sealed_any (bb bo cap : Nat) (l : List UInt8) (hl : l.length < 2 ^ 40) (w : World) (hb : Byt w bb bo l) (hbb : bb < w.heap.size) :
    Calls Tryz.prog 87 #[.slice (some ⟨bb, bo, none⟩) l.length cap] w fun r w' => ∃ v, r = .returned v ∧ w'.ownsRow w.heap.size 5 1 v (l.length + 8) (u8V (l ++ leB 8 (sumOf l))) ∧ Below w.heap.size w w' := by
  obtain ⟨i0, hi0, hz0, hz1, hz2⟩ := info_parts infoB8
  have hown0 := World.ownsRow_nil w w.heap.size 5 1
  have hs := sumOf_lt l
  obtain ⟨s, es⟩ : ∃ s, sumOf l = s := ⟨_, rfl⟩
  rw [es] at hs
  go_enter Tryz.func87, Tryz.ntmps87
  go_wp2_with (at_builtin; refine wpList_append_own _ rfl _ _ 24 rfl w.heap.size 5 i0 (.int .u8 0) 1 1 Tryz.underlying24 hi0 hz0 hz1 hz2 rfl (by decide) _ _ _ rfl hown0 ⟨bb, bo, none⟩ l.length cap (u8V l) rfl (by rw [u8V_length]; omega) hb.news (u8V_one l) (by unfold maxLen; omega) (by omega) (by omega) ?_; intro v' w1 hown' hgrow _)
  have hb1 : Below w.heap.size w w1 := (Below.refl _ _).grown hgrow (Nat.le_refl _) (fun k hk => by cases hk)
  have hy1 : Byt w1 bb bo l := hb.later (.of_below (S := fun _ => False) hb1) hbb id
  clear hgrow
  go_wp2_with (first | (go_at_call 117; refine (rsum_any bb bo cap l (by omega) _ hy1).mono ?_; rintro r w' ⟨rfl, hw'⟩; obtain rfl := hw'.symm))
  clear hy1 hown0
  have hS : Hid (sumOf l = s) := es
  clear es
  simp only [List.nil_append, Nat.zero_add] at hown'
  go_loopw [3, 4, 5] (fun v vv vi wr => ∃ c : Nat, c ≤ 8 ∧ vv = .int .u64 ((s / 256 ^ c : Nat) : Int) ∧ vi = .int .i64 (c : Int) ∧ wr.ownsRow w.heap.size 5 1 v (l.length + c) (u8V (l ++ leB c s)) ∧ Below w.heap.size w wr) (fun _ _ i _ => 8 - (intOf i).toNat)
  case atStart => exact ⟨0, by omega, by simp, rfl, by simpa [leB] using hown', hb1⟩
  case round =>
    obtain ⟨c, hc, rfl, rfl, hown, hbel⟩ := hrel
    clear hown' hb1 hb
    have hsz := hbel.size
    by_cases hlt : c < 8
    · obtain ⟨y, ey⟩ : ∃ y, s / 256 ^ c = y := ⟨_, rfl⟩
      have hy : y < 2 ^ 64 := by rw [← ey]; exact Nat.lt_of_le_of_lt (Nat.div_le_self _ _) hs
      have EQ : Hid (u8V (l ++ leB c s) ++ [.int .u8 ((y % 256 : Nat) : Int)] = u8V (l ++ leB (c + 1) s)) := u8V_snoc _ (y % 256) (by omega) _ (by rw [leB_snoc, ey, List.append_assoc])
      have DV : Hid (y / 256 = s / 256 ^ (c + 1)) := by rw [← ey, Nat.div_div_eq_div_mul, Nat.pow_succ]; exact rfl
      rw [ey]
      clear ey hs
      go_wp2_with (at_builtin; refine wpList_append_own _ rfl _ _ 24 rfl w.heap.size 5 i0 (.int .u8 0) 1 1 Tryz.underlying24 hi0 hz0 hz1 hz2 rfl (by decide) _ _ _ rfl (hown.alloc _) ⟨wr.heap.size, 0, none⟩ 1 1 [.int .u8 ((y % 256 : Nat) : Int)] rfl rfl (cell_one_new _ _ _) (one_u8' _) (by unfold maxLen; omega) (by omega) (by simp; omega) ?_; intro v2 w2 hown2 hgrow _)
      have hb2 := (hbel.alloc (by omega) (.cells #[Value.int .u8 ((y % 256 : Nat) : Int)] 5)).grown hgrow (by simp; omega) (fun k hk => (hown.lt k hk).1)
      clear hgrow
      go_wp2
      go_roundw
      case rel => exact ⟨c + 1, by omega, by rw [← DV.out]; go_num, by go_num, by rw [← EQ.out]; exact hown2, hb2⟩
      case measure => simp [intOf]; omega
    · have e : c = 8 := by omega
      subst e
      go_wp2
      go_ret
      exact ⟨_, rfl, by rw [hS.out]; exact hown, hbel⟩
theorem sealed_of (bb bo k cap : Nat) (l : List UInt8) (hk : l.length = k) (hl : k < 2 ^ 40) (w : World) (hb : Byt w bb bo l) (hbb : bb < w.heap.size) :
    Calls Tryz.prog 87 #[.slice (some ⟨bb, bo, none⟩) k cap] w fun r w' => ∃ g c, r = .returned (.slice (some ⟨g, 0, none⟩) (k + 8) c) ∧ w.heap.size ≤ g ∧ g < w'.heap.size ∧ Byt w' g 0 (l ++ leB 8 (sumOf l)) ∧ Below w.heap.size w w' := by
  subst hk
  refine (sealed_any bb bo cap l hl w hb hbb).mono ?_
  rintro r w' ⟨v, rfl, h1, h2⟩
  rcases h1.2 with ⟨_, h0⟩ | ⟨g, c, cur, rfl, hg, hh, _⟩
  · omega
  refine ⟨g, c, rfl, hg, (Array.getElem?_eq_some_iff.1 hh).1, fun i hi => ?_, h2⟩
  have hi' : i < l.length + 8 := by simpa [leB_length] using hi
  have hc := h1.cellAt i (by omega)
  rw [Nat.zero_add, hc]
  obtain ⟨u, hu⟩ : ∃ u, (u8V (l ++ leB 8 (sumOf l)))[i]? = some u := ⟨_, List.getElem?_eq_getElem (by simpa [u8V] using hi)⟩
  obtain ⟨_, rfl⟩ := u8V_at hu
  exact hu
end Go.Proofs.YtlghjjennhpjeaaGreatDoor

/-
  How the document reads a shard: bytes and their sum come (seal).
-/
namespace Go.Proofs.YtlghjjennhpjeaaGreatDoor
open Go.RowKit Go.Deep

/-- n of the bytes, from a place on. -/
def part (l : List UInt8) (a n : Nat) : List UInt8 := (l.drop a).take n
theorem part_length {l : List UInt8} {a n : Nat} (h : a + n ≤ l.length) : (part l a n).length = n := by simp [part]; omega
theorem part_at {l : List UInt8} {a n i : Nat} (hi : i < n) : bAt (part l a n) i = bAt l (a + i) := by
  simp [bAt, part, List.getD_eq_getElem?_getD, hi]
theorem Byt.part {w : World} {bb bo : Nat} {l : List UInt8} (h : Byt w bb bo l) {a n : Nat} (hn : a + n ≤ l.length) : Byt w bb (bo + a) (part l a n) := by
  intro i hi
  rw [part_length hn] at hi
  rw [part_at hi, Nat.add_assoc]
  exact h (a + i) (by omega)

/-- n bytes and their sum come from a place on, or what is wrong and where. -/
def sealE (l : List UInt8) (a n : Nat) : Option (Nat × Nat) :=
  if l.length < a + n + 8 then some (4, l.length) else if part l (a + n) 8 = leB 8 (sumOf (part l a n)) then none else some (6, a + n)

theorem mixed : Tryz.prog.follows .mixedOrders = true := by kernel_rfl

theorem take_next {a b : List UInt8} {c : Nat} (ha : c < a.length) (hb : c < b.length) : a.take (c + 1) = b.take (c + 1) ↔ a.take c = b.take c ∧ bAt a c = bAt b c := by
  rw [List.take_succ_eq_append_getElem ha, List.take_succ_eq_append_getElem hb]
  have e1 : bAt a c = a[c].toNat := by simp [bAt, List.getD_eq_getElem?_getD, List.getElem?_eq_getElem ha]
  have e2 : bAt b c = b[c].toNat := by simp [bAt, List.getD_eq_getElem?_getD, List.getElem?_eq_getElem hb]
  rw [e1, e2]
  constructor
  · intro h
    have := List.append_inj h (by simp; omega)
    exact ⟨this.1, by rw [(List.cons.inj this.2).1]⟩
  · rintro ⟨h1, h2⟩
    rw [h1, UInt8.toNat_inj.1 h2]
set_option maxRecDepth 100000 in
theorem index_at (bb bo len cap : Nat) (I : Int) (i : Nat) (hI : I = i) (hi : i < len) : ∀ w, (Instr.indexAt 24 (.slice (some ⟨bb, bo, none⟩) len cap) (.int .i64 I)).run Tryz.prog w = .ok (.pointer (some ⟨bb, bo + i, none⟩)) w := by
  intro w
  subst hI
  have h1 : (i : Int) < (len : Int) := by omega
  simp [go_sem, h1, add_off]
theorem wp_region_tail {P : Program} {id : Nat} {Q : Exit → Act → World → Prop} {a : Act} {w : World} {l : List Oper} (n : Nat) (hm : P.follows .mixedOrders = true) (hB : Region.lexTailB .any l.toArray n = true)
    (h : wpStill P l.toArray w.drew (fun a' => wpList P l.toArray Q (l.drop n) a' w.drew) (l.take n) a) : (Code.region id l.toArray true).wp P Q a w := wp_region_still_tail n hm hB h
set_option maxRecDepth 100000 in
theorem slice_part (bb bo len cap : Nat) (L H : Int) (a h : Nat) (hL : L = a) (hH : H = h) (hah : a ≤ h) (hc : h ≤ cap) (ha : a < cap) : ∀ w, (Instr.slice 24 (.slice (some ⟨bb, bo, none⟩) len cap) (some (.int .i64 L)) (some (.int .i64 H)) none).run Tryz.prog w = .ok (.slice (some ⟨bb, bo + a, none⟩) (h - a) (cap - a)) w := by
  intro w
  subst hL hH
  have hu : Tryz.prog.underlying 24 = some (.slice (Tryz.prog.elem 24)) := Tryz.underlying24
  rw [run_slice_lh w 24 _ _ _ hu .i64 .i64 a h (by omega) (by omega) (by omega)]
  have hsz : (sizeOf (Tryz.prog.elem 24)).run Tryz.prog w = .ok 1 w := by
    simp [sizeOf, go_sem]
    rfl
  rw [hsz]
  simp only [Result.andThen, sliced, Int.toNat_natCast, Nat.mul_one]
  rw [if_neg (by omega)]
  simp [add_off]
set_option maxHeartbeats 4000000 in
set_option maxRecDepth 100000 in
theorem seal_any (sb : Nat) (N : Int) (n : Nat) (hN : N = n) (hn : n < 2 ^ 30) (bb bo cap : Nat) (hbs : bb ≠ sb) (l : List UInt8) (hl : l.length < 2 ^ 60) (hcap : l.length ≤ cap) (at_ e p : Nat) (ha : at_ < 2 ^ 59) (w : World) (h : Scn w sb (.slice (some ⟨bb, bo, none⟩) l.length cap) at_ e p) (hb : Byt w bb bo l) (hbb : bb < w.heap.size) :
    Calls Tryz.prog 60 #[.pointer (some ⟨sb, 0, none⟩), .int .i64 N] w fun r w' => r = .returned (.tuple #[]) ∧ Scn w' sb (.slice (some ⟨bb, bo, none⟩) l.length cap) at_ (eOf (sealE l at_ n) e) (pOf (sealE l at_ n) e p) ∧ But w.heap.size (· = sb) w w' := by
  subst hN
  have hsb := RowAt.lt h
  have c0 := h.c0
  have c1 := h.c1
  have c2 := h.c2
  go_enter Tryz.func60, Tryz.ntmps60
  by_cases he : e = 0
  · subst he
    by_cases hsh : l.length < at_ + n + 8
    · have H2 : Hid (sealE l at_ n = some (4, l.length)) := by show sealE l at_ n = _; unfold sealE; rw [if_pos hsh]
      have hsh' : (l.length : Int) < (at_ : Int) + (n : Int) + 8 := by omega
      clear hsh
      go_wp2
      go_quiet (fail)
      go_wp2_with (first | (go_at_call 61; refine (err_any sb _ _ 4 l.length (by rfl) (by rfl) _ at_ 0 p _ (by exact h.heap rfl)).mono ?_; rintro r w' ⟨rfl, h1, b1⟩))
      refine bodyPost_ret (results_none rfl _ _ _) rfl ?_
      exact ⟨rfl, by rw [H2.out]; exact h1, ((But.refl _ _ _).drewN _).trans b1⟩
    · have hsh' : decide ((l.length : Int) < (at_ : Int) + (n : Int) + 8) = false := by simp; omega
      have hy1 := hb.part (a := at_) (n := n) (by omega)
      have hpl : (part l at_ n).length = n := part_length (by omega)
      go_wp2
      go_quiet (fail)
      go_wp2
      have hsl := slice_part bb bo l.length cap (at_ : Int) ((at_ : Int) + (n : Int)) at_ (at_ + n) rfl (by simp) (by omega) (by omega) (by omega)
      have hwr : IntKind.i64.wrap ((at_ : Int) + (n : Int)) = (at_ : Int) + (n : Int) := IntWalk.i64_in _ (by omega)
      refine wp_region_tail 15 mixed (by kernel_rfl) ?_
      simp only [List.take_succ_cons, List.take_zero, List.drop_succ_cons, List.drop_zero]
      repeat still_step
      refine wpStill_nil ?_
      clear hsl hwr
      go_wp2_with (first | (go_at_call 87; refine (sealed_of bb (bo + at_) n (cap - at_) (part l at_ n) hpl (by omega) _ (by exact hy1) (by exact hbb)).mono ?_; rintro r w1 ⟨g, gc, rfl, hg0, hg1, hgb, hw1⟩))
      have hB1 : But w.heap.size (· = sb) w w1 := ((But.refl _ _ _).drewN _).trans (.of_below hw1)
      have hS1 : Scn w1 sb (.slice (some ⟨bb, bo, none⟩) l.length cap) at_ 0 p := by
        have hh : w1.heap[sb]? = w.heap[sb]? := hw1.block sb hsb
        unfold Scn RowAt at *
        rw [hh]; exact h
      have hy : Byt w1 bb bo l := hb.later hB1 hbb hbs
      have hbb1 : bb < w1.heap.size := Nat.lt_of_lt_of_le hbb hB1.size
      have hsb1 : sb < w1.heap.size := RowAt.lt hS1
      have hgs : g ≠ sb := by
        have : w.heap.size ≤ g := hg0
        omega
      clear hy1 hpl hw1 hg0 c0 c1 c2 h hb
      obtain ⟨q, eq⟩ : ∃ q, leB 8 (sumOf (part l at_ n)) = q := ⟨_, rfl⟩
      have hq8 : q.length = 8 := by rw [← eq, leB_length]
      have hq : ∀ c, c < 8 → w1.cell? ⟨g, n + c, none⟩ = some (.int .u8 (bAt q c : Int)) := by
        intro c hc
        have hpl : (part l at_ n).length = n := part_length (by omega)
        have := hgb (n + c) (by rw [List.length_append, hpl, eq, hq8]; omega)
        rw [Nat.zero_add, eq] at this
        rw [this]
        simp only [bAt, List.getD_eq_getElem?_getD]
        rw [List.getElem?_append_right (by omega), hpl, Nat.add_sub_cancel_left]
      have HE : Hid (sealE l at_ n = if part l (at_ + n) 8 = q then none else some (6, at_ + n)) := by
        show sealE l at_ n = _
        unfold sealE
        rw [if_neg (by omega), eq]
      clear eq hgb hsh'
      go_loopw [5] (fun vi wr => ∃ c : Nat, c ≤ 8 ∧ vi = .int .i64 ((n + c : Nat) : Int) ∧ But w1.heap.size (· = sb) w1 wr ∧
        Scn wr sb (.slice (some ⟨bb, bo, none⟩) l.length cap) at_ (if (part l (at_ + n) 8).take c = q.take c then 0 else 6) (if (part l (at_ + n) 8).take c = q.take c then p else at_ + n)) (fun i _ => n + 8 - (intOf i).toNat)
      case atStart => exact ⟨0, by omega, by simp, But.refl _ _ _, by simpa using hS1⟩
      case round =>
        obtain ⟨c, hc, rfl, hB, hS⟩ := hrel
        by_cases hlt : c < 8
        · have c0 := hS.c0
          have c1 := hS.c1
          have hcell := (hy.later hB hbb1 hbs) (at_ + (n + c)) (by omega)
          have hcq := (hB.cell (p := ⟨g, n + c, none⟩) hg1 hgs).trans (hq c hlt)
          obtain ⟨x, ex⟩ : ∃ x, bAt q c = x := ⟨_, rfl⟩
          obtain ⟨y, ey⟩ : ∃ y, bAt l (at_ + (n + c)) = y := ⟨_, rfl⟩
          have hpl : (part l (at_ + n) 8).length = 8 := part_length (by omega)
          have hnext := take_next (a := part l (at_ + n) 8) (b := q) (c := c) (by omega) (by omega)
          rw [part_at hlt, Nat.add_assoc, ex, ey] at hnext
          rw [ex] at hcq
          rw [ey] at hcell
          have HN : Hid ((part l (at_ + n) 8).take (c + 1) = q.take (c + 1) ↔ (part l (at_ + n) 8).take c = q.take c ∧ y = x) := hnext
          have hwr : IntKind.i64.wrap ((at_ : Int) + (n : Int)) = (at_ : Int) + (n : Int) := IntWalk.i64_in _ (by omega)
          have hwr2 : IntKind.i64.wrap ((at_ : Int) + ((n : Int) + (c : Int))) = (at_ : Int) + ((n : Int) + (c : Int)) := IntWalk.i64_in _ (by omega)
          have hi1 := index_at g 0 (n + 8) gc ((n : Int) + (c : Int)) (n + c) (by simp) (by omega)
          have hi2 := index_at bb bo l.length cap ((at_ : Int) + ((n : Int) + (c : Int))) (at_ + (n + c)) (by simp) (by omega)
          rw [Nat.zero_add] at hi1
          generalize hee : (if (part l (at_ + n) 8).take c = q.take c then 0 else 6) = ee at hS
          generalize hpp : (if (part l (at_ + n) 8).take c = q.take c then p else at_ + n) = pp at hS
          have HEE : Hid (_ = ee) := hee
          have HPP : Hid (_ = pp) := hpp
          clear hee hpp hnext ex ey hpl hq hy hS1 HE
          go_wp2
          refine wp_region_tail 24 mixed (by kernel_rfl) ?_
          simp only [List.take_succ_cons, List.take_zero, List.drop_succ_cons, List.drop_zero]
          repeat still_step
          refine wpStill_nil ?_
          clear hi1 hi2 hwr hwr2 c0 c1 hcell hcq
          go_wp2_with (first | (go_at_call 31; refine (must_any sb ((x : Int) == (y : Int)) _ _ 6 (at_ + n) (by rfl) (by simp) _ at_ ee pp _ (by exact hS.heap rfl)).mono ?_; rintro r w' ⟨rfl, h1, b1⟩))
          go_roundw
          case rel =>
            refine ⟨c + 1, by omega, by go_num, (hB.drewN _).trans (b1.mono hB.size (fun _ x => x)), ?_⟩
            have e1 : (if ((x : Int) == (y : Int)) = true then ee else first ee 6) = if (part l (at_ + n) 8).take (c + 1) = q.take (c + 1) then 0 else 6 := by
              rw [← HEE.out]
              by_cases hA : (part l (at_ + n) 8).take c = q.take c
              · by_cases hxy : y = x
                · rw [if_pos (HN.out.2 ⟨hA, hxy⟩), hxy, if_pos hA]; simp
                · rw [if_neg (fun hh => hxy (HN.out.1 hh).2), if_pos hA, if_neg (by simp; omega)]; rfl
              · rw [if_neg (fun hh => hA (HN.out.1 hh).1), if_neg hA]; simp [first]
            have e2 : (if ((x : Int) == (y : Int)) = true then pp else firstP ee pp (at_ + n)) = if (part l (at_ + n) 8).take (c + 1) = q.take (c + 1) then p else at_ + n := by
              rw [← HEE.out, ← HPP.out]
              by_cases hA : (part l (at_ + n) 8).take c = q.take c
              · by_cases hxy : y = x
                · rw [if_pos (HN.out.2 ⟨hA, hxy⟩), hxy, if_pos hA]; simp
                · rw [if_neg (fun hh => hxy (HN.out.1 hh).2), if_pos hA, if_neg (by simp; omega)]; simp [firstP, hA]
              · rw [if_neg (fun hh => hA (HN.out.1 hh).1), if_neg hA]; simp [firstP, hA]
            rw [← e1, ← e2]
            exact h1
          case measure => simp [intOf]; omega
        · have e8 : c = 8 := by omega
          subst e8
          go_wp2
          refine bodyPost_end (results_none rfl _ _ _) rfl ?_
          have hpl : (part l (at_ + n) 8).length = 8 := part_length (by omega)
          refine ⟨rfl, ?_, hB1.trans (hB.mono hB1.size (fun _ x => x))⟩
          have t1 : (part l (at_ + n) 8).take 8 = part l (at_ + n) 8 := List.take_of_length_le (by omega)
          have t2 : q.take 8 = q := List.take_of_length_le (by omega)
          rw [t1, t2] at hS
          rw [HE.out]
          by_cases hA : part l (at_ + n) 8 = q
          · rw [if_pos hA] at hS ⊢
            rw [if_pos hA] at hS
            exact hS
          · rw [if_neg hA] at hS ⊢
            rw [if_neg hA] at hS
            exact hS
  · have he' : ((e : Int) == 0) = false := by simp; omega
    have E : Hid (¬ e = 0) := he
    clear he
    go_wp2
    refine bodyPost_ret (results_none rfl _ _ _) rfl ?_
    exact ⟨rfl, by rw [eOf_err E.out, pOf_err E.out]; exact h, But.refl _ _ _⟩
end Go.Proofs.YtlghjjennhpjeaaGreatDoor

/-
  A shard that is to be written: how its lists lie in memory; what may be wrong with it, and its bytes, in plain words.
-/
namespace Go.Proofs.YtlghjjennhpjeaaGreatDoor
open Go.RowKit Go.Deep

/-- A slice of values of one cell each, wherever it lies. -/
def Lies (w : World) (v : Value) (xs : List Value) : Prop :=
  ∃ ba cap, v = .slice ba xs.length cap ∧ xs.length ≤ cap ∧ ∀ j u, xs[j]? = some u → ∃ b off, ba = some ⟨b, off, none⟩ ∧ w.cell? ⟨b, off + j, none⟩ = some u
theorem cell_lt {w : World} {p : Addr} {u : Value} (h : w.cell? p = some u) : p.block < w.heap.size := by
  rcases Nat.lt_or_ge p.block w.heap.size with h1 | h1
  · exact h1
  · unfold World.cell? at h
    have : w.heap[p.block]? = none := by simp [h1]
    rw [this] at h
    split at h <;> simp_all
theorem Lies.below {w w' : World} {v : Value} {xs : List Value} (h : Lies w v xs) (hb : Below w.heap.size w w') : Lies w' v xs := by
  obtain ⟨ba, cap, rfl, hle, hc⟩ := h
  refine ⟨ba, cap, rfl, hle, fun j u hj => ?_⟩
  obtain ⟨b, off, e, hh⟩ := hc j u hj
  exact ⟨b, off, e, (hb.cell (p := ⟨b, off + j, none⟩) (cell_lt hh)).trans hh⟩

def nameV (l : List (List UInt8)) : List Value := l.map fun s => Value.string ⟨s.toArray⟩
def intV (l : List Int) : List Value := l.map fun z => Value.int .i64 z
theorem nameV_length (l : List (List UInt8)) : (nameV l).length = l.length := by simp [nameV]
theorem intV_length (l : List Int) : (intV l).length = l.length := by simp [intV]
theorem nameV_at {l : List (List UInt8)} {j : Nat} (h : j < l.length) : (nameV l)[j]? = some (.string ⟨(l.getD j []).toArray⟩) := by
  simp [nameV, List.getElem?_map, List.getD_eq_getElem?_getD, List.getElem?_eq_getElem h]
theorem intV_at {l : List Int} {j : Nat} (h : j < l.length) : (intV l)[j]? = some (.int .i64 (l.getD j 0)) := by
  simp [intV, List.getElem?_map, List.getD_eq_getElem?_getD, List.getElem?_eq_getElem h]
theorem u8V_get {l : List UInt8} {j : Nat} (h : j < l.length) : (u8V l)[j]? = some (.int .u8 (bAt l j : Int)) := by
  obtain ⟨u, hu⟩ : ∃ u, (u8V l)[j]? = some u := ⟨_, List.getElem?_eq_getElem (by simpa [u8V] using h)⟩
  obtain ⟨_, rfl⟩ := u8V_at hu
  exact hu

/-- Is a name not behind another? -/
def notAfter (a b : List UInt8) : Bool := Op.bytesLess a b || a == b
/-- A shard. -/
structure Sh where
  K : Int
  N : Int
  I : Int
  C : Int
  ns : List (List UInt8)
  zs : List Int
  col : List UInt8
def NamesOk (ns : List (List UInt8)) : Prop := ∀ i, i < ns.length → (1 ≤ (ns.getD i []).length ∧ (ns.getD i []).length ≤ 255) ∧ (0 < i → notAfter (ns.getD i []) (ns.getD (i - 1) []) = false)
def SizesOk (zs : List Int) : Prop := ∀ i, i < zs.length → 0 ≤ zs.getD i 0
/-- The manifest's length. -/
def manN (ns : List (List UInt8)) : Nat := 4 + (ns.map fun n => 6 + n.length).sum
def tot (zs : List Int) : Nat := (zs.map Int.toNat).sum
def lenC (k t : Nat) : Nat := (t + k - 1) / k
structure Sh.Fine (s : Sh) : Prop where
  k1 : 1 ≤ s.K
  kn : s.K ≤ s.N
  n1 : s.N ≤ 128
  i0 : 0 ≤ s.I
  iN : s.I < s.N
  c1 : 1 ≤ s.C
  c2 : s.C ≤ 65536
structure Sh.Listed (s : Sh) : Prop where
  len : s.ns.length = s.zs.length
  names : NamesOk s.ns
  sizes : SizesOk s.zs
structure Sh.Few (s : Sh) : Prop where
  blobs : s.ns.length ≤ 1000
  bytes : tot s.zs ≤ 65536
  man : manN s.ns ≤ 300000
def Sh.Long (s : Sh) : Prop := s.col.length = lenC s.K.toNat (tot s.zs)
def Sh.Bad (s : Sh) : Prop := s.I < s.K ∧ ∃ m, m < s.col.length ∧ tot s.zs ≤ s.I.toNat * lenC s.K.toNat (tot s.zs) + m ∧ bAt s.col m ≠ 0
open Classical in
/-- The first error, or 0. -/
noncomputable def Sh.err (s : Sh) : Nat :=
  if ¬ s.Fine then 1 else if ¬ s.Listed then 2 else if ¬ s.Few then 3 else if ¬ s.Long then 15 else if s.Bad then 8 else 0

/-- The manifest as far as i blobs. -/
def manTo (ns : List (List UInt8)) (zs : List Int) (i : Nat) : List UInt8 := leB 4 ns.length ++ (List.range i).flatMap fun j => leB 2 (ns.getD j []).length ++ (ns.getD j [] ++ leB 4 (zs.getD j 0).toNat)
theorem manTo_succ (ns : List (List UInt8)) (zs : List Int) (i : Nat) : manTo ns zs (i + 1) = manTo ns zs i ++ leB 2 (ns.getD i []).length ++ ns.getD i [] ++ leB 4 (zs.getD i 0).toNat := by
  simp [manTo, List.range_succ, List.append_assoc]
def sealB (l : List UInt8) : List UInt8 := l ++ leB 8 (sumOf l)
def manB (s : Sh) : List UInt8 := manTo s.ns s.zs s.ns.length
def b8 (x : Int) : UInt8 := UInt8.ofNat (x.toNat % 256)
def headB (s : Sh) (m : Nat) : List UInt8 := [67, 65, 73, 82, 78, 49] ++ ([b8 s.K, b8 s.N, b8 s.I, 0] ++ (leB 4 s.C.toNat ++ (leB 4 m ++ (leB 4 s.col.length ++ [0, 0]))))
/-- Frame k of a column. -/
def frameB (c : Nat) (col : List UInt8) (k : Nat) : List UInt8 := sealB (part col (k * c) (min c (col.length - k * c)))
def framesTo (c : Nat) (col : List UInt8) (i : Nat) : List UInt8 := (List.range i).flatMap (frameB c col)
theorem framesTo_succ (c : Nat) (col : List UInt8) (i : Nat) : framesTo c col (i + 1) = framesTo c col i ++ frameB c col i := by simp [framesTo, List.range_succ]
/-- How many frames. -/
def nFr (c n : Nat) : Nat := (n + c - 1) / c
def wrB (s : Sh) : List UInt8 := sealB (headB s (manB s).length) ++ sealB (manB s) ++ framesTo s.C.toNat s.col (nFr s.C.toNat s.col.length) ++ [68, 79, 78, 69]

theorem nFr_lt {c n k : Nat} (hc : 1 ≤ c) : k < nFr c n ↔ k * c < n := by
  unfold nFr
  rw [Nat.lt_div_iff_mul_lt (by omega)]
  omega
theorem sealB_length (l : List UInt8) : (sealB l).length = l.length + 8 := by simp [sealB, leB_length]
theorem manTo_length (ns : List (List UInt8)) (zs : List Int) : ∀ i, (manTo ns zs i).length = 4 + ((List.range i).map fun j => 6 + (ns.getD j []).length).sum
  | 0 => by simp [manTo, leB_length]
  | i + 1 => by
    rw [manTo_succ]
    simp only [List.length_append, leB_length, manTo_length ns zs i, List.range_succ, List.map_append, List.map_cons, List.map_nil, List.sum_append, List.sum_cons, List.sum_nil]
    omega
theorem range_map_getD {α β : Type} (l : List α) (d : α) (f : α → β) : (List.range l.length).map (fun j => f (l.getD j d)) = l.map f := by
  apply List.ext_getElem
  · simp
  · intro i h1 h2
    have : i < l.length := by simpa using h1
    simp [List.getD_eq_getElem?_getD, List.getElem?_eq_getElem this]
theorem manB_length (s : Sh) : (manB s).length = manN s.ns := by
  unfold manB manN
  rw [manTo_length, range_map_getD s.ns [] (fun n => 6 + n.length)]
/-- The manifest's length as far as i names. -/
def manNto (ns : List (List UInt8)) (i : Nat) : Nat := 4 + ((List.range i).map fun j => 6 + (ns.getD j []).length).sum
theorem manNto_succ (ns : List (List UInt8)) (i : Nat) : manNto ns (i + 1) = manNto ns i + 6 + (ns.getD i []).length := by
  simp only [manNto, List.range_succ, List.map_append, List.map_cons, List.map_nil, List.sum_append, List.sum_cons, List.sum_nil]
  omega
theorem manNto_all (ns : List (List UInt8)) : manNto ns ns.length = manN ns := by
  unfold manNto manN
  rw [range_map_getD ns [] (fun n => 6 + n.length)]
/-- The sizes together as far as i of them. -/
def totTo (zs : List Int) (i : Nat) : Nat := ((List.range i).map fun j => (zs.getD j 0).toNat).sum
theorem totTo_succ (zs : List Int) (i : Nat) : totTo zs (i + 1) = totTo zs i + (zs.getD i 0).toNat := by
  simp [totTo, List.range_succ]
theorem totTo_all (zs : List Int) : totTo zs zs.length = tot zs := by
  unfold totTo tot
  rw [range_map_getD zs 0 Int.toNat]
theorem totTo_mono (zs : List Int) (i : Nat) : ∀ d, totTo zs i ≤ totTo zs (i + d)
  | 0 => Nat.le_refl _
  | d + 1 => by
    have := totTo_mono zs i d
    rw [← Nat.add_assoc, totTo_succ]
    omega
theorem totTo_le (zs : List Int) {i : Nat} (h : i ≤ zs.length) : totTo zs i ≤ tot zs := by
  rw [← totTo_all]
  have := totTo_mono zs i (zs.length - i)
  rwa [show i + (zs.length - i) = zs.length by omega] at this

/-- What a call leaves that turns one row of its own alone. -/
theorem But.of_grown {w w' : World} {row : Option Nat} (h : w.grownBy w' row) : But w.heap.size (fun k => row = some k) w w' :=
  ⟨h.os, h.tape, h.output, h.size, fun k hk hs => h.block k hk (fun e => hs e.symm)⟩
theorem owns_byt {w : World} {base n : Nat} {v : Value} {l : List UInt8} (h : w.ownsRow base 5 1 v n (u8V l)) (hn : 0 < n) : ∃ g c, v = .slice (some ⟨g, 0, none⟩) l.length c ∧ n = l.length ∧ base ≤ g ∧ g < w.heap.size ∧ n ≤ c ∧ Byt w g 0 l := by
  have hl : l.length = n := by have := h.1; rw [u8V_length] at this; omega
  rcases h.2 with ⟨_, h0⟩ | ⟨g, c, cur, rfl, hg, hh, hc, _⟩
  · omega
  refine ⟨g, c, by rw [hl], hl.symm, hg, (Array.getElem?_eq_some_iff.1 hh).1, hc, fun i hi => ?_⟩
  have := h.cellAt i (by omega)
  rw [Nat.zero_add, this]
  exact u8V_get hi
theorem strCells_u8V (l : List UInt8) : Lib.strCells ⟨l.toArray⟩ = u8V l := by
  simp [Lib.strCells, u8V]
end Go.Proofs.YtlghjjennhpjeaaGreatDoor

/-
  What the program's calls that sum bytes answer.
-/
namespace Go.Proofs.YtlghjjennhpjeaaGreatDoor
open Go.RowKit

set_option maxHeartbeats 400000 in
set_option maxRecDepth 100000 in
theorem sum_row (b off len cap : Nat) (xs : List Nat) (hl : xs.length = len) (hx : ∀ i, i < len → xs.getD i 0 < 256) (hm : len ≤ 9223372036854775807) (w : World) (hc : ∀ i, i < len → w.cell? ⟨b, off + i, none⟩ = some (.int .u8 ((xs.getD i 0 : Nat) : Int)))
    (ht : ∀ i, i < 16 → w.cell? ⟨3, i, none⟩ = some (.int .u64 ((crcTab.getD i 0 : Nat) : Int))) :
    Calls Tryz.prog 138 #[.slice (some ⟨b, off, none⟩) len cap] w fun e w' => e = .returned (.int .u64 (crc xs : Nat)) ∧ w' = w := by
  go_enter Tryz.func138, Tryz.ntmps138
  go_wp2
  go_loop [3, 5, 8] (fun vs vb vi => ∃ k s : Nat, k ≤ len ∧ s < 2 ^ 64 ∧ vs = .int .u64 (s : Int) ∧ vi = .int .i64 (k : Int) ∧ Hid (crcL s (xs.drop k) = crcL crcAll xs)) (fun _ _ i => len - (intOf i).toNat)
  case atStart => exact ⟨0, crcAll, by omega, crcAll_lt, rfl, rfl, rfl⟩
  case round =>
    obtain ⟨k, s, hk, hs, rfl, rfl, H⟩ := hrel
    by_cases hlt : k < len
    · have hcell := hc k hlt
      have hb := hx k hlt
      obtain ⟨x, ex⟩ : ∃ x, xs.getD k 0 = x := ⟨_, rfl⟩
      rw [ex] at hcell hb
      have ey := u64_xor_lt hs (Nat.lt_trans hb (by decide))
      obtain ⟨y, hy⟩ : ∃ y, s ^^^ x = y := ⟨_, rfl⟩
      have ly : y < 2 ^ 64 := hy ▸ Nat.xor_lt_two_pow hs (Nat.lt_trans hb (by decide))
      rw [hy] at ey
      obtain ⟨m1, t1, z1, hm1, ht1, lz1, hz1, e1, e2⟩ := four ly
      obtain ⟨m2, t2, z2, hm2, ht2, lz2, hz2, e3, e4⟩ := four lz1
      have hc1 := ht m1 hm1
      have hc2 := ht m2 hm2
      rw [← ht1] at hc1
      rw [← ht2] at hc2
      have G : Hid (crcL z2 (xs.drop (k + 1)) = crcL crcAll xs) := by
        have hz : z2 = crcB s x := by rw [hz2, hz1, ← crcN_add, ← hy]; rfl
        rw [hz]
        exact crcL_step (by omega) ex H.out
      clear ex hc hx ht ht1 ht2 hz1 hz2 hy H
      go_wp2
      go_round
      case rel => exact ⟨k + 1, z2, by omega, lz2, rfl, by go_num, G⟩
      case measure => simp [intOf]; omega
    · have e : k = xs.length := by omega
      have G : Hid (s = crcL crcAll xs) := by
        have := H.out
        rw [e, List.drop_length] at this
        exact this
      clear H hc hx ht
      go_wp2
      go_ret
      exact ⟨ret_u64 (by rw [not_u64 hs, crc, ← G.out]), rfl⟩

end Go.Proofs.YtlghjjennhpjeaaGreatDoor

/-
  What the program's small calls for writing answer: lengths, fitting, the first byte that is not 0.
-/
namespace Go.Proofs.YtlghjjennhpjeaaGreatDoor
open Go.RowKit Go.Deep

theorem ret_bool' {a b : Bool} (h : a = b) : Ending.returned (.bool a) = .returned (.bool b) := by rw [h]
theorem in64 (n : Int) (hn : -9223372036854775808 ≤ n ∧ n ≤ 9223372036854775807) : wrap64 n = n := (IntWalk.i64_left n).symm.trans (IntWalk.i64_in n hn)

set_option maxHeartbeats 400000 in
set_option maxRecDepth 100000 in
theorem clength_any (K T : Int) (k t : Nat) (hK : K = k) (hT : T = t) (hk : 1 ≤ k) (hk2 : k ≤ 255) (ht : t ≤ 65536) (w : World) :
    Calls Tryz.prog 116 #[.int .i64 K, .int .i64 T] w fun r w' => r = .returned (.int .i64 (lenC k t : Nat)) ∧ w' = w := by
  subst hK hT
  have W1 : Hid (((t : Int) + (k : Int) - 1) / (k : Int) = (lenC k t : Nat)) := by
    show ((t : Int) + (k : Int) - 1) / (k : Int) = (lenC k t : Nat)
    rw [show (t : Int) + (k : Int) - 1 = ((t + k - 1 : Nat) : Int) by omega, ← Int.natCast_ediv]; rfl
  go_enter Tryz.func116, Tryz.ntmps116
  go_wp2
  go_ret
  exact ⟨ret_i64 (by rw [W1.out]), rfl⟩

/-- A call tells yes just where this holds. -/
def Tells (r : Ending) (p : Prop) : Prop := ∃ b : Bool, r = .returned (.bool b) ∧ (b = true ↔ p)
theorem tells_yes {r : Ending} {p : Prop} (h : r = .returned (.bool true)) (hp : p) : Tells r p := ⟨true, h, by simp [hp]⟩
theorem tells_no {r : Ending} {p : Prop} (h : r = .returned (.bool false)) (hp : ¬ p) : Tells r p := ⟨false, h, by simp [hp]⟩
theorem Tells.yes {r : Ending} {p : Prop} (h : Tells r p) (hp : p) : r = .returned (.bool true) := by
  obtain ⟨b, rfl, hb⟩ := h
  rw [hb.2 hp]
theorem Tells.no {r : Ending} {p : Prop} (h : Tells r p) (hp : ¬ p) : r = .returned (.bool false) := by
  obtain ⟨b, rfl, hb⟩ := h
  cases b
  · rfl
  · exact absurd (hb.1 rfl) hp
/-- The first byte from a place on that is not 0, or -1. -/
def FirstNot (l : List UInt8) (F : Int) (r : Ending) : Prop := ∃ x : Int, r = .returned (.int .i64 x) ∧ ((x = -1 ∧ ∀ m : Nat, F ≤ (m : Int) → m < l.length → bAt l m = 0) ∨ ∃ m : Nat, x = (m : Int) ∧ F ≤ (m : Int) ∧ m < l.length ∧ bAt l m ≠ 0 ∧ ∀ m' : Nat, m' < m → F ≤ (m' : Int) → bAt l m' = 0)
set_option maxHeartbeats 1000000 in
set_option maxRecDepth 100000 in
theorem firstNot_any (F : Int) (hF : -1000000000000 ≤ F ∧ F ≤ 1000000000000) (v : Value) (l : List UInt8) (hl : l.length ≤ 9223372036854775807) (w : World) (h : Lies w v (u8V l)) :
    Calls Tryz.prog 135 #[v, .int .i64 F] w fun r w' => w' = w ∧ FirstNot l F r := by
  obtain ⟨ba, cap, rfl, hcap, hc⟩ := h
  rw [u8V_length] at hcap ⊢
  obtain ⟨f, hf⟩ : ∃ f : Nat, f = F.toNat := ⟨_, rfl⟩
  have hmax : max (0 : Int) F = (f : Int) := by omega
  have hfb : f ≤ 1000000000000 := by omega
  go_enter Tryz.func135, Tryz.ntmps135
  go_wp2
  all_goals
    go_loop [5] (fun vi => ∃ c : Nat, f ≤ c ∧ (c ≤ l.length ∨ c = f) ∧ vi = .int .i64 (c : Int) ∧ ∀ m : Nat, m < c → F ≤ (m : Int) → m < l.length → bAt l m = 0) (fun i => l.length - (intOf i).toNat)
    case atStart => exact ⟨f, Nat.le_refl _, .inr rfl, by congr 1; omega, fun m hm hm2 _ => by omega⟩
    case round =>
      obtain ⟨c, hfc, hcl, rfl, hz⟩ := hrel
      by_cases hlt : c < l.length
      · obtain ⟨b, off, rfl, hcell⟩ := hc c _ (u8V_get hlt)
        have hb := bAt_lt l c
        obtain ⟨y, ey⟩ : ∃ y, bAt l c = y := ⟨_, rfl⟩
        rw [ey] at hcell hb
        have HY : Hid (bAt l c = y) := ey
        have HZ : Hid _ := hz
        have HF : Hid (f = F.toNat) := hf
        clear ey hz hc hmax hf hfb
        by_cases hy : y = 0
        · subst hy
          go_wp2
          go_round
          case rel =>
            refine ⟨c + 1, by omega, .inl (by omega), by go_num, fun m hm hm2 hm3 => ?_⟩
            rcases Nat.lt_or_ge m c with h1 | h1
            · exact HZ.out m h1 hm2 hm3
            · obtain rfl : m = c := by omega
              exact HY.out
          case measure => simp [intOf]; omega
        · have hy' : ((y : Int) == 0) = false := by simp; omega
          have hy2 : ((y : Int) != 0) = true := by simp; omega
          go_wp2
          go_ret
          refine ⟨rfl, _, rfl, .inr ⟨c, rfl, ?_, hlt, ?_, fun m' h1 h2 => HZ.out m' h1 h2 (by omega)⟩⟩
          · have := HF.out; omega
          · rw [HY.out]; exact hy
      · clear hc
        have HZ : Hid _ := hz
        clear hz
        go_wp2
        go_ret
        exact ⟨rfl, _, rfl, .inl ⟨rfl, fun m h1 h2 => HZ.out m (by omega) h1 h2⟩⟩

theorem manNto_le (ns : List (List UInt8)) (hn : NamesOk ns) : ∀ i, i ≤ ns.length → manNto ns i ≤ 4 + 261 * i
  | 0, _ => by simp [manNto]
  | i + 1, h => by
    have h1 := manNto_le ns hn i (by omega)
    have h2 := (hn i (by omega)).1.2
    rw [manNto_succ]
    omega
end Go.Proofs.YtlghjjennhpjeaaGreatDoor

/-
  What the program's calls on a list of names and sizes answer.
-/
namespace Go.Proofs.YtlghjjennhpjeaaGreatDoor
open Go.RowKit Go.Deep

theorem ba_size (s : List UInt8) : (ByteArray.mk s.toArray).size = s.length := by simp [ByteArray.size]

/-- Up to a place all names and sizes may be. -/
def ListedTo (ns : List (List UInt8)) (zs : List Int) (c : Nat) : Prop := ∀ i, i < c → ((1 ≤ (ns.getD i []).length ∧ (ns.getD i []).length ≤ 255) ∧ (0 < i → notAfter (ns.getD i []) (ns.getD (i - 1) []) = false)) ∧ 0 ≤ zs.getD i 0
theorem ListedTo.next {ns : List (List UInt8)} {zs : List Int} {c : Nat} (h : ListedTo ns zs c) (h1 : 1 ≤ (ns.getD c []).length ∧ (ns.getD c []).length ≤ 255) (h2 : 0 < c → notAfter (ns.getD c []) (ns.getD (c - 1) []) = false) (h3 : 0 ≤ zs.getD c 0) : ListedTo ns zs (c + 1) := by
  intro i hi
  rcases Nat.lt_or_ge i c with x | x
  · exact h i x
  · obtain rfl : i = c := by omega
    exact ⟨⟨h1, h2⟩, h3⟩
/-- Names and sizes that may be. -/
def ListOk (ns : List (List UInt8)) (zs : List Int) : Prop := ns.length = zs.length ∧ NamesOk ns ∧ SizesOk zs
theorem ListedTo.all {ns : List (List UInt8)} {zs : List Int} (hl : ns.length = zs.length) (h : ListedTo ns zs ns.length) : ListOk ns zs :=
  ⟨hl, fun i hi => (h i hi).1, fun i hi => (h i (by omega)).2⟩

/-- Few and small enough. -/
def FewOk (ns : List (List UInt8)) (zs : List Int) : Prop := ns.length ≤ 1000 ∧ tot zs ≤ 65536 ∧ manN ns ≤ 300000
end Go.Proofs.YtlghjjennhpjeaaGreatDoor

/-
  What the program's Check of a shard answers.
-/
namespace Go.Proofs.YtlghjjennhpjeaaGreatDoor
open Go.RowKit Go.Deep

/-- Numbers of parts that may be. -/
def PartsOk (k n : Int) : Prop := 1 ≤ k ∧ k ≤ n ∧ n ≤ 128
def ParamsOk (k n c : Int) : Prop := PartsOk k n ∧ 1 ≤ c ∧ c ≤ 65536
/-- How many bytes of a column stand for data or are worked out of it. -/
def usedI (k i t : Nat) : Int := if k ≤ i then (lenC k t : Int) else max 0 (min (lenC k t : Int) ((t : Int) - ((i * lenC k t : Nat) : Int)))
theorem lenC_le {k : Nat} (hk : 1 ≤ k) (t : Nat) : lenC k t ≤ t := by
  unfold lenC
  rcases Nat.eq_zero_or_pos t with rfl | h
  · rw [Nat.div_eq_of_lt (by omega)]; omega
  · have h1 : (t + k - 1) / k < t + 1 := by
      rw [Nat.div_lt_iff_lt_mul (by omega)]
      have : t * 1 ≤ t * k := Nat.mul_le_mul_left t hk
      rw [Nat.add_mul]
      omega
    omega
set_option maxHeartbeats 1000000 in
set_option maxRecDepth 100000 in
theorem used_any (K I T : Int) (k i t : Nat) (hK : K = k) (hI : I = i) (hT : T = t) (hk : 1 ≤ k) (hk2 : k ≤ 255) (hi : i ≤ 255) (ht : t ≤ 65536) (w : World) :
    Calls Tryz.prog 134 #[.int .i64 K, .int .i64 I, .int .i64 T] w fun r w' => r = .returned (.int .i64 (usedI k i t)) ∧ w' = w := by
  have K1 := clength_any K T k t hK hT hk hk2 ht w
  subst hK hI hT
  have hL := lenC_le hk t
  unfold usedI
  obtain ⟨L, eL⟩ : ∃ L, lenC k t = L := ⟨_, rfl⟩
  rw [eL] at K1 hL ⊢
  obtain ⟨p, ep⟩ : ∃ p, i * L = p := ⟨_, rfl⟩
  have hp : p ≤ 255 * 65536 := by rw [← ep]; exact Nat.mul_le_mul hi (by omega)
  have hp2 : (i : Int) * (L : Int) = (p : Int) := by rw [← ep]; simp
  rw [ep]
  clear eL ep hk
  by_cases hik : k ≤ i
  · rw [if_pos hik]
    go_enter Tryz.func134, Tryz.ntmps134
    go_wp2_with (first | (go_at_call 116; refine K1.mono ?_; rintro r w' ⟨rfl, hw'⟩; obtain rfl := hw'.symm))
    go_ret
    exact ⟨rfl, rfl⟩
  · rw [if_neg hik]
    have W1 : wrap64 (p : Int) = (p : Int) := in64 _ (by omega)
    have W2 : wrap64 ((t : Int) - (p : Int)) = (t : Int) - (p : Int) := in64 _ (by omega)
    rcases Int.lt_or_le ((t : Int) - (p : Int)) (L : Int) with c1 | c1
    · rcases Int.lt_or_le 0 ((t : Int) - (p : Int)) with c2 | c2
      · have HG : Hid (max 0 (min (L : Int) ((t : Int) - (p : Int))) = (t : Int) - (p : Int)) := by show _ = _; omega
        go_enter Tryz.func134, Tryz.ntmps134
        go_wp2_with (first | (go_at_call 116; refine K1.mono ?_; rintro r w' ⟨rfl, hw'⟩; obtain rfl := hw'.symm))
        all_goals go_ret
        all_goals exact ⟨ret_i64 (by rw [HG.out]), rfl⟩
      · have HG : Hid (max 0 (min (L : Int) ((t : Int) - (p : Int))) = 0) := by show _ = _; omega
        go_enter Tryz.func134, Tryz.ntmps134
        go_wp2_with (first | (go_at_call 116; refine K1.mono ?_; rintro r w' ⟨rfl, hw'⟩; obtain rfl := hw'.symm))
        all_goals go_ret
        all_goals exact ⟨ret_i64 (by rw [HG.out]), rfl⟩
    · rcases Nat.eq_zero_or_pos L with c2 | c2
      · have HG : Hid (max 0 (min (L : Int) ((t : Int) - (p : Int))) = 0) := by show _ = _; omega
        subst c2
        go_enter Tryz.func134, Tryz.ntmps134
        go_wp2_with (first | (go_at_call 116; refine K1.mono ?_; rintro r w' ⟨rfl, hw'⟩; obtain rfl := hw'.symm))
        all_goals go_ret
        all_goals exact ⟨ret_i64 (by rw [HG.out]; try rfl), rfl⟩
      · have HG : Hid (max 0 (min (L : Int) ((t : Int) - (p : Int))) = L) := by show _ = _; omega
        go_enter Tryz.func134, Tryz.ntmps134
        go_wp2_with (first | (go_at_call 116; refine K1.mono ?_; rintro r w' ⟨rfl, hw'⟩; obtain rfl := hw'.symm))
        all_goals go_ret
        all_goals exact ⟨ret_i64 (by rw [HG.out]), rfl⟩

/-- A shard as it is handed in. -/
def shV (s : Sh) (vN vS vC : Value) : Value := .agg #[.int .i64 s.K, .int .i64 s.N, .int .i64 s.I, .int .i64 s.C, vN, vS, vC]
structure Sh.In (s : Sh) (w : World) (vN vS vC : Value) : Prop where
  names : Lies w vN (nameV s.ns)
  sizes : Lies w vS (intV s.zs)
  col : Lies w vC (u8V s.col)
  nl : s.ns.length ≤ 9223372036854775807
  zl : s.zs.length ≤ 9223372036854775807
  cl : s.col.length ≤ 9223372036854775807
  ml : ∀ n ∈ s.ns, n.length ≤ 9223372036854775807
theorem Sh.In.below {s : Sh} {w w' : World} {vN vS vC : Value} (h : s.In w vN vS vC) (hb : Below w.heap.size w w') : s.In w' vN vS vC :=
  ⟨h.names.below hb, h.sizes.below hb, h.col.below hb, h.nl, h.zl, h.cl, h.ml⟩
theorem Sh.fine_iff (s : Sh) : s.Fine ↔ ParamsOk s.K s.N s.C ∧ 0 ≤ s.I ∧ s.I < s.N :=
  ⟨fun h => ⟨⟨⟨h.k1, h.kn, h.n1⟩, h.c1, h.c2⟩, h.i0, h.iN⟩, fun h => ⟨h.1.1.1, h.1.1.2.1, h.1.1.2.2, h.2.1, h.2.2, h.1.2.1, h.1.2.2⟩⟩
theorem Sh.listed_iff (s : Sh) : s.Listed ↔ ListOk s.ns s.zs := ⟨fun h => ⟨h.len, h.names, h.sizes⟩, fun h => ⟨h.1, h.2.1, h.2.2⟩⟩
theorem Sh.few_iff (s : Sh) : s.Few ↔ FewOk s.ns s.zs := ⟨fun h => ⟨h.blobs, h.bytes, h.man⟩, fun h => ⟨h.1, h.2.1, h.2.2⟩⟩

/-- A box of seven cells behind a call that leaves what lay. -/
theorem box7 {w w1 : World} {a b c d e f g : Value} {t : TypeId} (hB : Below (w.alloc (.cells #[a, b, c, d, e, f, g] t)).heap.size (w.alloc (.cells #[a, b, c, d, e, f, g] t)) w1) :
    (w1.cell? ⟨w.heap.size, 0, none⟩ = some a ∧ w1.cell? ⟨w.heap.size, 1, none⟩ = some b ∧ w1.cell? ⟨w.heap.size, 2, none⟩ = some c ∧ w1.cell? ⟨w.heap.size, 3, none⟩ = some d ∧ w1.cell? ⟨w.heap.size, 4, none⟩ = some e ∧ w1.cell? ⟨w.heap.size, 5, none⟩ = some f ∧ w1.cell? ⟨w.heap.size, 6, none⟩ = some g) ∧ Below w.heap.size w w1 := by
  have h0 : RowAt (w.alloc (.cells #[a, b, c, d, e, f, g] t)) w.heap.size [a, b, c, d, e, f, g] t := RowAt.made w [a, b, c, d, e, f, g] t
  have h1 : RowAt w1 w.heap.size [a, b, c, d, e, f, g] t := h0.later (S := fun _ => False) (.of_below hB) (by simp) id
  refine ⟨⟨h1.cell rfl, h1.cell rfl, h1.cell rfl, h1.cell rfl, h1.cell rfl, h1.cell rfl, h1.cell rfl⟩, ?_⟩
  exact ((Below.refl w.heap.size w).alloc (Nat.le_refl _) _).trans (hB.mono (by simp))

end Go.Proofs.YtlghjjennhpjeaaGreatDoor

/-
  What the program's Check of a shard answers where its numbers may be.
-/
namespace Go.Proofs.YtlghjjennhpjeaaGreatDoor
open Go.RowKit Go.Deep

/-- The first byte from a place on that is not 0, or -1. -/
def firstI (l : List UInt8) (F : Int) : Int := match (List.range l.length).find? (fun m : Nat => decide (F ≤ (m : Int) ∧ bAt l m ≠ 0)) with
  | some m => (m : Int)
  | none => -1
theorem FirstNot.is {l : List UInt8} {F : Int} {r : Ending} (h : FirstNot l F r) : r = .returned (.int .i64 (firstI l F)) := by
  obtain ⟨x, rfl, hx⟩ := h
  rcases hx with ⟨rfl, hz⟩ | ⟨m, rfl, h1, h2, h3, h4⟩
  · have : (List.range l.length).find? (fun m : Nat => decide (F ≤ (m : Int) ∧ bAt l m ≠ 0)) = none := by
      rw [List.find?_eq_none]
      intro m hm
      have := hz m
      simp only [List.mem_range] at hm
      simp only [decide_eq_true_eq]
      rintro ⟨g1, g2⟩
      exact g2 (this g1 hm)
    unfold firstI
    rw [this]
  · have : (List.range l.length).find? (fun m : Nat => decide (F ≤ (m : Int) ∧ bAt l m ≠ 0)) = some m := by
      rw [List.find?_range_eq_some]
      refine ⟨by simp only [decide_eq_true_eq]; exact ⟨h1, h3⟩, by simpa using h2, fun j hj => ?_⟩
      have := h4 j hj
      simp only [Bool.not_eq_true', decide_eq_false_iff_not]
      rintro ⟨g1, g2⟩
      exact g2 (this g1)
    unfold firstI
    rw [this]
theorem firstI_iff (l : List UInt8) (F : Int) : 0 ≤ firstI l F ↔ ∃ m : Nat, m < l.length ∧ F ≤ (m : Int) ∧ bAt l m ≠ 0 := by
  unfold firstI
  cases hf : (List.range l.length).find? (fun m : Nat => decide (F ≤ (m : Int) ∧ bAt l m ≠ 0)) with
  | some m =>
    rw [List.find?_range_eq_some] at hf
    have h1 := hf.1
    simp only [decide_eq_true_eq] at h1
    refine ⟨fun _ => ⟨m, by simpa using hf.2.1, h1.1, h1.2⟩, fun _ => by simp⟩
  | none =>
    rw [List.find?_eq_none] at hf
    refine ⟨fun h => by simp at h, fun ⟨m, h1, h2, h3⟩ => ?_⟩
    have := hf m (by simpa using h1)
    simp only [decide_eq_true_eq] at this
    exact absurd ⟨h2, h3⟩ this
theorem firstI_range (l : List UInt8) (F : Int) : -1 ≤ firstI l F ∧ firstI l F < (l.length : Int) + 1 := by
  unfold firstI
  cases hf : (List.range l.length).find? (fun m : Nat => decide (F ≤ (m : Int) ∧ bAt l m ≠ 0)) with
  | some m =>
    rw [List.find?_range_eq_some] at hf
    have : m < l.length := by simpa using hf.2.1
    simp only
    omega
  | none => simp only; omega
theorem firstI_any (F : Int) (hF : -1000000000000 ≤ F ∧ F ≤ 1000000000000) (v : Value) (l : List UInt8) (hl : l.length ≤ 9223372036854775807) (w : World) (h : Lies w v (u8V l)) :
    Calls Tryz.prog 135 #[v, .int .i64 F] w fun r w' => r = .returned (.int .i64 (firstI l F)) ∧ w' = w :=
  (firstNot_any F hF v l hl w h).mono fun _ _ hx => ⟨hx.2.is, hx.1⟩
theorem bad_iff {k i t : Nat} {col : List UInt8} (hL : col.length = lenC k t) : 0 ≤ firstI col (usedI k i t) ↔ i < k ∧ ∃ m, m < col.length ∧ t ≤ i * lenC k t + m ∧ bAt col m ≠ 0 := by
  rw [firstI_iff]
  unfold usedI
  constructor
  · rintro ⟨m, h1, h2, h3⟩
    by_cases hk : k ≤ i
    · rw [if_pos hk] at h2; omega
    · rw [if_neg hk] at h2
      exact ⟨by omega, m, h1, by omega, h3⟩
  · rintro ⟨hk, m, h1, h2, h3⟩
    rw [if_neg (by omega)]
    exact ⟨m, h1, by omega, h3⟩
theorem usedI_range (k i t : Nat) (hk : 1 ≤ k) (ht : t ≤ 65536) : -1000000000000 ≤ usedI k i t ∧ usedI k i t ≤ 1000000000000 := by
  have h1 := lenC_le hk t
  unfold usedI
  split <;> omega
theorem Lies.drewN {w : World} {v : Value} {xs : List Value} (h : Lies w v xs) (n : Nat) : Lies (w.drewN n) v xs := by
  obtain ⟨ba, cap, rfl, hle, hc⟩ := h
  exact ⟨ba, cap, rfl, hle, fun j u hj => by
    obtain ⟨b, off, e, hh⟩ := hc j u hj
    exact ⟨b, off, e, by rw [← hh]; simp⟩⟩
theorem below_drewN {B : Nat} {a w : World} (h : Below B a w) (n : Nat) : Below B a (w.drewN n) := h.trans ⟨rfl, rfl, rfl, Nat.le_refl _, fun _ _ => rfl⟩
set_option maxHeartbeats 1000000 in
set_option maxRecDepth 100000 in
theorem totalP_any (v : Value) (zs : List Int) (hl : zs.length ≤ 9223372036854775807) (hzo : SizesOk zs) (ht : tot zs ≤ 65536) (w : World) (h : Lies w v (intV zs)) :
    Calls Tryz.prog 50 #[v] w fun r w' => r = .returned (.int .i64 (tot zs : Nat)) ∧ w' = w := by
  obtain ⟨ba, cap, rfl, hcap, hcz⟩ := h
  rw [intV_length] at hcap ⊢
  obtain ⟨t, et⟩ : ∃ t, tot zs = t := ⟨_, rfl⟩
  have hto : ∀ c, c ≤ zs.length → totTo zs c ≤ t := fun c hc => et ▸ totTo_le zs hc
  have hall : totTo zs zs.length = t := by rw [totTo_all, et]
  rw [et] at ht ⊢
  clear et
  go_enter Tryz.func50, Tryz.ntmps50
  go_wp2
  go_loop [3, 5, 8] (fun vt _ vi => ∃ c : Nat, c ≤ zs.length ∧ vi = .int .i64 (c : Int) ∧ vt = .int .i64 (totTo zs c : Nat)) (fun _ _ i => zs.length - (intOf i).toNat)
  case atStart => exact ⟨0, by omega, rfl, rfl⟩
  case round =>
    obtain ⟨c, hcl2, rfl, rfl⟩ := hrel
    by_cases hlt : c < zs.length
    · obtain ⟨b, off, rfl, hcell⟩ := hcz c _ (intV_at hlt)
      have hzc := hzo c hlt
      obtain ⟨z, e2⟩ : ∃ z : Nat, zs.getD c 0 = (z : Int) := ⟨(zs.getD c 0).toNat, by omega⟩
      have HS : Hid (totTo zs (c + 1) = totTo zs c + z) := by
        show _ = _
        rw [totTo_succ, e2]; simp
      have hb2 : totTo zs c + z ≤ 65536 := by rw [← HS.out]; exact Nat.le_trans (hto (c + 1) (by omega)) ht
      rw [e2] at hcell
      obtain ⟨y, ey⟩ : ∃ y, totTo zs c = y := ⟨_, rfl⟩
      rw [ey] at HS hb2 ⊢
      clear e2 hzc hcz hzo ey hall hto
      go_wp2
      go_round
      case rel => exact ⟨c + 1, by omega, by go_num, by rw [HS.out]; go_num⟩
      case measure => simp [intOf]; omega
    · obtain rfl : c = zs.length := by omega
      rw [hall]
      clear hcz hzo hall hto
      go_wp2
      go_ret
      exact ⟨rfl, rfl⟩
section
variable (K N I C : Int) (ns : List (List UInt8)) (zs : List Int) (col : List UInt8) (vN vS vC : Value) (w : World) (h : (Sh.mk K N I C ns zs col).In w vN vS vC) (H1 : Hid (ParamsOk K N C)) (i0 : 0 ≤ I) (iN : I < N)

end
end Go.Proofs.YtlghjjennhpjeaaGreatDoor

/-
  Blobs put in the order of their names by the program: run alone.
-/
namespace Go.Proofs.YtlghjjennhpjeaaGreatDoor
open Go.RowKit Go.Deep Go.Hp

theorem Tryz.infoBlob : (Tryz.prog.info? 63).map (fun i => (i.zero, i.size, i.bytes)) = some (some (.agg #[.string ⟨#[]⟩, .slice none 0 0]), 2, 40) := by kernel_rfl
def blobC (e : Ent) : List Value := [strV e.k, e.d]
def blobL (n : Nat) (f : Nat → Ent) : List Value := (List.range n).flatMap fun i => blobC (f i)
theorem blobL_succ (n : Nat) (f : Nat → Ent) : blobL (n + 1) f = blobL n f ++ blobC (f n) := by
  unfold blobL
  rw [List.range_succ, List.flatMap_append]
  simp
theorem blobL_length (n : Nat) (f : Nat → Ent) : (blobL n f).length = n * 2 := by
  induction n with
  | zero => rfl
  | succ n ih => rw [blobL_succ, List.length_append, ih]; simp [blobC]; omega
theorem blobL_get (n : Nat) (f : Nat → Ent) (i p : Nat) (hi : i < n) (hp : p < 2) : (blobL n f)[i * 2 + p]? = (blobC (f i))[p]? := by
  induction n with
  | zero => omega
  | succ n ih =>
    rw [blobL_succ]
    by_cases e : i = n
    · subst e
      rw [List.getElem?_append_right (by rw [blobL_length]; omega), blobL_length, show i * 2 + p - i * 2 = p by omega]
    · rw [List.getElem?_append_left (by rw [blobL_length]; omega), ih (by omega)]
theorem blobL_congr {n : Nat} {f g : Nat → Ent} (h : ∀ i, i < n → f i = g i) : blobL n f = blobL n g := by
  induction n with
  | zero => rfl
  | succ n ih => rw [blobL_succ, blobL_succ, ih fun i hi => h i (by omega), h n (by omega)]
theorem blobC_one (e : Ent) : ∀ u ∈ blobC e, u.oneCell' = true := by
  intro u hu
  simp [blobC] at hu
  rcases hu with rfl | rfl <;> rfl

/-- Blobs where they lie. -/
structure BC (w : World) (bo : Option Addr) (n : Nat) (f : Nat → Ent) : Prop where
  here : 0 < n → ∃ b o, bo = some ⟨b, o, none⟩ ∧ b < w.heap.size ∧ ∀ i, i < n → w.cell? ⟨b, o + i * 2, none⟩ = some (strV (f i).k) ∧ w.cell? ⟨b, o + i * 2 + 1, none⟩ = some (f i).d
theorem BC.below {w w' : World} {bo : Option Addr} {n B : Nat} {f : Nat → Ent} (h : BC w bo n f) (hb : Below B w w') (hB : w.heap.size ≤ B) : BC w' bo n f := ⟨fun hn => by
  obtain ⟨b, o, h1, h2, h3⟩ := h.here hn
  exact ⟨b, o, h1, Nat.lt_of_lt_of_le h2 hb.size, fun i hi => ⟨(hb.cell (p := ⟨b, _, none⟩) (Nat.lt_of_lt_of_le h2 hB)).trans (h3 i hi).1, (hb.cell (p := ⟨b, _, none⟩) (Nat.lt_of_lt_of_le h2 hB)).trans (h3 i hi).2⟩⟩⟩

theorem owns_keep' {w w' : World} {B e s n : Nat} {v : Value} {xs : List Value} (h : w.ownsRow B e s v n xs) (hk : ∀ g, v.ownBlock = some g → w'.heap[g]? = w.heap[g]?) : w'.ownsRow B e s v n xs := by
  refine ⟨h.1, ?_⟩
  rcases h.2 with h1 | ⟨g, cap, cur, h1, h2, h3, h4⟩
  · exact .inl h1
  · exact .inr ⟨g, cap, cur, h1, h2, by rw [hk g (by rw [h1]; rfl)]; exact h3, h4⟩
theorem kind_ne {w : World} {B B' t t' s s' n n' : Nat} {v v' : Value} {xs xs' : List Value} (h : w.ownsRow B t s v n xs) (h' : w.ownsRow B' t' s' v' n' xs') (ht : t ≠ t') {b : Nat} (hb : v.ownBlock = some b) : v'.ownBlock ≠ some b := fun hb' => by
  obtain ⟨c1, f1, e1⟩ := Lib.ownsRow_kind h b hb
  obtain ⟨c2, f2, e2⟩ := Lib.ownsRow_kind h' b hb'
  rw [e1] at e2
  cases e2
  exact ht rfl

theorem owns_new (w : World) (n B : Nat) (hB : B ≤ w.heap.size) (hn : n ≤ 1048576) : (w.alloc (.cells (madeCells #[.string ⟨#[]⟩, .slice none 0 0] (n * 2)) 63)).ownsRow B 63 2 (.slice (some ⟨w.heap.size, 0, none⟩) 0 n) 0 [] :=
  ⟨rfl, .inr ⟨w.heap.size, n, madeCells #[.string ⟨#[]⟩, .slice none 0 0] (n * 2), rfl, hB, heap_alloc_new _ _, by omega, by unfold maxLen; omega, size_madeCells _ _, rfl⟩⟩
theorem cell_two_new (w : World) (x y : Value) (t : TypeId) : ∀ j u, [x, y][j]? = some u → (w.alloc (.cells #[x, y] t)).cell? ((⟨w.heap.size, 0, none⟩ : Addr).add j) = some u := by
  intro j u hj
  match j, hj with
  | 0, hj => simp at hj; subst hj; simp [Addr.add]
  | 1, hj => simp at hj; subst hj; simp [Addr.add]
theorem new_blob (w : World) (e : Ent) : (w.alloc (.cells #[.string ⟨e.k.toArray⟩, .slice e.a e.l e.c] 63)).cell? ⟨w.heap.size, 0, none⟩ = some (.string ⟨e.k.toArray⟩) ∧ (w.alloc (.cells #[.string ⟨e.k.toArray⟩, .slice e.a e.l e.c] 63)).cell? ⟨w.heap.size, 1, none⟩ = some (.slice e.a e.l e.c) := by
  constructor <;> simp
theorem make_blobs (n : Nat) (hn : n ≤ 1048576) (w : World) : (Instr.makeSlice 25 (.int .i64 0) (.int .i64 (n : Int))).run Tryz.prog w = .ok (.slice (some ⟨w.heap.size, 0, none⟩) 0 n) (w.alloc (.cells (madeCells #[.string ⟨#[]⟩, .slice none 0 0] (n * 2)) 63)) := by
  obtain ⟨i0, hi0, hz0, hz1, hz2⟩ := info_parts Tryz.infoBlob
  have := run_make (P := Tryz.prog) w 25 63 i0 _ Tryz.underlying25 hi0 hz0 .i64 .i64 0 n (by omega) (by omega) (by rw [hz2]; omega) (by omega)
  rw [hz1] at this
  simp only [Int.toNat_natCast] at this
  exact this
theorem dup_not {n : Nat} {f g : Nat → Ent} (h : Rearr n f g) {i j : Nat} (hi : i < n) (hj : j < n) (hij : i ≠ j) (e : (g i).k = (g j).k) : ¬ (∀ i j, i < j → j < n → (f i).k ≠ (f j).k) := by
  obtain ⟨i', j', h1, h2, h3, h4, h5⟩ := h.two hi hj hij
  rw [h4, h5] at e
  intro hd
  rcases Nat.lt_or_ge i' j' with h | h
  · exact hd i' j' h h2 e
  · exact hd j' i' (by omega) h1 e.symm
theorem lt_far {n : Nat} {f : Nat → Ent} (h : ∀ i, i + 1 < n → Hp.lt (f i).k (f (i + 1)).k = true) : ∀ d i, i + d + 1 < n → Hp.lt (f i).k (f (i + d + 1)).k = true
  | 0, i, hi => h i hi
  | d + 1, i, hi => Hp.lt_trans (lt_far h d i (by omega)) (h (i + d + 1) (by omega))
theorem apart_of {n : Nat} {f g : Nat → Ent} (h : Rearr n f g) (hs : ∀ i, i + 1 < n → Hp.lt (g i).k (g (i + 1)).k = true) : ∀ i j, i < j → j < n → (f i).k ≠ (f j).k := fun i j hij hj e => by
  refine dup_not h.symm (i := i) (j := j) (by omega) hj (by omega) e fun i j hij hj e => ?_
  have := lt_far hs (j - i - 1) i (by omega)
  rw [show i + (j - i - 1) + 1 = j by omega, e, Hp.lt_irrefl] at this
  cases this

def Fits (k : List UInt8) : Prop := 1 ≤ k.length ∧ k.length ≤ 255
/-- Names that may be, no two the same. -/
def NamesFit (n : Nat) (f : Nat → Ent) : Prop := (∀ i, i < n → Fits (f i).k) ∧ ∀ i j, i < j → j < n → (f i).k ≠ (f j).k
def ByPost (n : Nat) (f : Nat → Ent) (w : World) (r : Ending) (w' : World) : Prop :=
  Below w.heap.size w w' ∧ ((¬ NamesFit n f ∧ r = .returned (.tuple #[.slice none 0 0, .bool false])) ∨
    (NamesFit n f ∧ ∃ f' v, r = .returned (.tuple #[v, .bool true]) ∧ Rearr n f f' ∧ (∀ i, i + 1 < n → Hp.lt (f' i).k (f' (i + 1)).k = true) ∧ w'.ownsRow w.heap.size 63 2 v n (blobL n f')))

end Go.Proofs.YtlghjjennhpjeaaGreatDoor

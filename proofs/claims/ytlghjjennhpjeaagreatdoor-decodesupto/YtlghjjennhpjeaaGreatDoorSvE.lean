/-
  When two rows of bytes are told to be the same.
-/
import Derived.Test.YtlghjjennhpjeaaGreatDoorRowW
import Derived.Laws.Rows
import Derived.KernelRfl
import Derived.Test.YtlghjjennhpjeaaGreatDoorMul
import Derived.Deep.WholeRow
namespace Go.Proofs.YtlghjjennhpjeaaGreatDoor
open Go.RowKit Go.Deep

theorem add_none (b off j : Nat) : (⟨b, off, none⟩ : Addr).add j = ⟨b, off + j, none⟩ := by
  unfold Addr.add
  by_cases h : j = 0 <;> simp [h]
theorem add_block8 (a : Addr) (j : Nat) : (a.add j).block = a.block := by
  unfold Addr.add
  by_cases h : j = 0 <;> simp [h]
/-- The slice v holds just these bytes. -/
def Holds8 (w : World) (v : Value) (l : List UInt8) : Prop :=
  (v = .slice none 0 0 ∧ l = []) ∨ ∃ a cap, v = .slice (some a) l.length cap ∧ ∀ j (hj : j < l.length), w.cell? (a.add j) = some (.int .u8 (l[j].toNat : Int))

theorem Holds8.string {w : World} {v : Value} {l : List UInt8} (h : Holds8 w v l) : (convert 24 9 v).run Tryz.prog w = .ok (.string ⟨l.toArray⟩) w := by
  rcases h with ⟨rfl, rfl⟩ | ⟨a, cap, rfl, hc⟩
  · rw [run_convert_bytes_string w 24 9 5 none 0 0 Tryz.underlying24 Tryz.underlying5 Tryz.underlying9]
    rfl
  · exact run_convert_bytes_back w 24 9 5 a cap l Tryz.underlying24 Tryz.underlying5 Tryz.underlying9 hc
/-- It stands in every world that has these cells. -/
theorem Holds8.later {w w' : World} {v : Value} {l : List UInt8} {B : Nat} (h : Holds8 w v l) (hb : Below B w w') (hv : ∀ a n c, v = .slice (some a) n c → a.block < B) : Holds8 w' v l := by
  rcases h with h | ⟨a, cap, rfl, hc⟩
  · exact .inl h
  · refine .inr ⟨a, cap, rfl, fun j hj => ?_⟩
    rw [hb.cell (p := a.add j) (by rw [add_block8]; exact hv a _ _ rfl)]
    exact hc j hj

/-- The bytes of a function on places. -/
def u8s (n : Nat) (f : Nat → Nat) : List UInt8 := (List.range n).map fun j => UInt8.ofNat (f j)
theorem u8s_length (n : Nat) (f : Nat → Nat) : (u8s n f).length = n := by simp [u8s]
theorem u8s_at {n : Nat} {f : Nat → Nat} (hf : ∀ j, j < n → f j < 256) (j : Nat) (hj : j < (u8s n f).length) : ((u8s n f)[j].toNat : Int) = (f j : Int) := by
  have hj' : j < n := by simpa [u8s] using hj
  have := hf j hj'
  simp only [u8s, List.getElem_map, List.getElem_range]
  rw [UInt8.toNat_ofNat']
  have e : f j % 2 ^ 8 = f j := Nat.mod_eq_of_lt (by simpa using this)
  rw [e]
theorem holds8_rowIs {w : World} {b n : Nat} {f : Nat → Nat} (h : w.rowIs b 5 n (fun j => .int .u8 (f j : Nat))) (hf : ∀ j, j < n → f j < 256) (cap : Nat) : Holds8 w (.slice (some ⟨b, 0, none⟩) n cap) (u8s n f) := by
  refine .inr ⟨⟨b, 0, none⟩, cap, by rw [u8s_length], fun j hj => ?_⟩
  rw [u8s_at hf j hj]
  have hj' : j < n := by simpa [u8s] using hj
  have := h.cell hj'
  rw [add_none, Nat.zero_add]
  exact this
theorem holds8_owns {w : World} {base n : Nat} {v : Value} {f : Nat → Nat} (h : w.ownsRow base 5 1 v n ((List.range n).map fun j => .int .u8 (f j : Nat))) (hf : ∀ j, j < n → f j < 256) : Holds8 w v (u8s n f) := by
  rcases h.2 with ⟨rfl, rfl⟩ | ⟨g, cap, cur, rfl, _, _, _, _, _, _⟩
  · exact .inl ⟨rfl, by simp [u8s]⟩
  · refine .inr ⟨⟨g, 0, none⟩, cap, by rw [u8s_length], fun j hj => ?_⟩
    have hj' : j < n := by simpa [u8s] using hj
    rw [u8s_at hf j hj]
    have := h.cellAt j (by omega)
    simp only [List.getElem?_map, List.getElem?_range hj'] at this
    rw [add_none, Nat.zero_add]
    exact this

theorem ret_bool {a b : Bool} (h : a = b) : Ending.returned (.bool a) = .returned (.bool b) := by rw [h]
set_option maxHeartbeats 400000 in
set_option maxRecDepth 100000 in
theorem same_any (va vb : Value) (l m : List UInt8) (w : World) (ha : Holds8 w va l) (hb : Holds8 w vb m) :
    Calls Tryz.prog 18 #[va, vb] w fun e w' => e = .returned (.bool (decide (l = m))) ∧ w' = w := by
  have h1 := ha.string
  have h2 := hb.string
  clear ha hb
  go_enter Tryz.func18, Tryz.ntmps18
  go_wp2
  go_ret
  exact ⟨ret_bool (by rw [Bool.eq_iff_iff]; simp), rfl⟩

theorem owns_snoc {w : World} {base e c : Nat} {v : Value} {f : Nat → Nat} {x : Nat} (h : w.ownsRow base e 1 v (c + 1) ((List.range c).map (fun j => Value.int .u8 (f j : Nat)) ++ [.int .u8 (x : Int)])) (hx : f c = x) :
    w.ownsRow base e 1 v (c + 1) ((List.range (c + 1)).map fun j => .int .u8 (f j : Nat)) := by
  rw [List.range_succ, List.map_append]
  simp only [List.map_cons, List.map_nil]
  rw [hx]
  exact h

theorem one_u8 (x : Int) : ∀ u ∈ [Value.int .u8 x], u.oneCell' = true := by intro u hu; simp at hu; subst hu; rfl
theorem below_append {w wr w1 : World} {e c : Nat} {v : Value} {xs : List Value} {o : Obj} (h : Below w.heap.size w wr) (hown : wr.ownsRow w.heap.size e 1 v c xs) (hg : (wr.alloc o).grownBy w1 v.ownBlock) : Below w.heap.size w w1 :=
  (h.alloc h.size o).grown hg (by have := h.size; simp; omega) (fun k hk => (hown.lt k hk).1)

set_option maxHeartbeats 1600000 in
set_option maxRecDepth 100000 in
theorem rrow_any (k i : Nat) (hk : k ≤ 128) (hi : i < 128) (w : World) :
    Calls Tryz.prog 36 #[.int .i64 (k : Int), .int .i64 (i : Int)] w fun e w' => ∃ v, e = .returned v ∧ w'.ownsRow w.heap.size 5 1 v k ((List.range k).map fun j => .int .u8 (rowV k i j : Nat)) ∧ Below w.heap.size w w' := by
  obtain ⟨i0, hi0, hz0, hz1, hz2⟩ := info_parts Tryz.infoB
  go_enter Tryz.func36, Tryz.ntmps36
  go_wp2
  go_loopw [5, 6, 7] (fun v vi _ wr => ∃ c : Nat, c ≤ k ∧ vi = .int .i64 (c : Int) ∧ wr.ownsRow w.heap.size 5 1 v c ((List.range c).map fun j => .int .u8 (rowV k i j : Nat)) ∧ Below w.heap.size w wr) (fun _ i _ _ => k - (intOf i).toNat)
  case atStart => exact ⟨0, by omega, rfl, World.ownsRow_nil _ _ _ _, Below.refl _ _⟩
  case round =>
    obtain ⟨c, hc, rfl, hown, hbel⟩ := hrel
    have hsz := hbel.size
    by_cases hlt : c < k
    · by_cases hik : i < k
      · by_cases hci : c = i
        · have EX : Hid (rowV k i c = 1) := by
            show rowV k i c = 1
            unfold rowV; rw [if_pos hik, if_pos hci]
          have hci' : ((i : Int) == (c : Int)) = true := by simp; omega
          clear hci
          go_wp2_with (at_builtin; refine wpList_append_own _ rfl _ _ 24 rfl w.heap.size 5 i0 (.int .u8 0) 1 1 Tryz.underlying24 hi0 hz0 hz1 hz2 rfl (by decide) _ _ _ rfl (hown.alloc _) ⟨wr.heap.size, 0, none⟩ 1 1 [.int .u8 1] rfl rfl (cell_one_new _ _ _) (one_u8 _) (by unfold maxLen; omega) (by omega) (by simp; omega) ?_; intro v' w1 hown' hgrow _)
          have hown2 := owns_snoc (f := rowV k i) hown' EX.out
          have hb2 := below_append hbel hown hgrow
          clear hown' hgrow
          go_wp2
          go_roundw
          case rel => exact ⟨c + 1, by omega, by go_num, hown2, hb2⟩
          case measure => simp [intOf]; omega
        · have EX : Hid (rowV k i c = 0) := by
            show rowV k i c = 0
            unfold rowV; rw [if_pos hik, if_neg hci]
          have hci' : ((i : Int) == (c : Int)) = false := by simp; omega
          clear hci
          go_wp2_with (at_builtin; refine wpList_append_own _ rfl _ _ 24 rfl w.heap.size 5 i0 (.int .u8 0) 1 1 Tryz.underlying24 hi0 hz0 hz1 hz2 rfl (by decide) _ _ _ rfl (hown.alloc _) ⟨wr.heap.size, 0, none⟩ 1 1 [.int .u8 0] rfl rfl (cell_one_new _ _ _) (one_u8 _) (by unfold maxLen; omega) (by omega) (by simp; omega) ?_; intro v' w1 hown' hgrow _)
          have hown2 := owns_snoc (f := rowV k i) hown' EX.out
          have hb2 := below_append hbel hown hgrow
          clear hown' hgrow
          go_wp2
          go_roundw
          case rel => exact ⟨c + 1, by omega, by go_num, hown2, hb2⟩
          case measure => simp [intOf]; omega
      · have hx : bits .xor .i64 (i : Int) (c : Int) = ((i ^^^ c : Nat) : Int) := i64_xor_nat _ _ (by omega) (by omega)
        have hxl := xor_lt128 hi (show c < 128 by omega)
        obtain ⟨x, ex⟩ : ∃ x, i ^^^ c = x := ⟨_, rfl⟩
        rw [ex] at hx hxl
        have EX : Hid (rowV k i c = inv x) := by
          show rowV k i c = inv x
          unfold rowV; rw [if_neg hik, ex, Nat.mod_eq_of_lt (by omega)]
        clear ex
        go_wp2_with (first | (go_at_call 63; refine (rinv_any _ (by omega) _).mono ?_; rintro e w' ⟨rfl, hw'⟩; obtain rfl := hw'.symm) | (at_builtin; refine wpList_append_own _ rfl _ _ 24 rfl w.heap.size 5 i0 (.int .u8 0) 1 1 Tryz.underlying24 hi0 hz0 hz1 hz2 rfl (by decide) _ _ _ rfl (hown.alloc _) ⟨wr.heap.size, 0, none⟩ 1 1 [.int .u8 (inv x : Nat)] rfl rfl (cell_one_new _ _ _) (one_u8 _) (by unfold maxLen; omega) (by omega) (by simp; omega) ?_; intro v' w1 hown' hgrow _))
        have hown2 := owns_snoc (f := rowV k i) hown' EX.out
        have hb2 := below_append hbel hown hgrow
        clear hown' hgrow
        go_wp2
        go_roundw
        case rel => exact ⟨c + 1, by omega, by go_num, hown2, hb2⟩
        case measure => simp [intOf]; omega
    · have e : c = k := by omega
      subst e
      go_wp2
      go_ret
      exact ⟨_, rfl, hown, hbel⟩
end Go.Proofs.YtlghjjennhpjeaaGreatDoor

/-
  Which numbers of parts may be; what Rows answers.
-/
namespace Go.Proofs.YtlghjjennhpjeaaGreatDoor
open Go.RowKit Go.Deep

/-- k is 1 to n, and n at most 128. -/
def fitB (k n : Int) : Bool := decide (1 ≤ k ∧ k ≤ n ∧ n ≤ 128)
theorem fitB_yes {k n : Int} (h1 : 1 ≤ k) (h2 : k ≤ n) (h3 : n ≤ 128) : fitB k n = true := decide_eq_true ⟨h1, h2, h3⟩
theorem fitB_no {k n : Int} (h : ¬ (1 ≤ k ∧ k ≤ n ∧ n ≤ 128)) : fitB k n = false := decide_eq_false h

set_option maxHeartbeats 400000 in
set_option maxRecDepth 100000 in
theorem num_any (x : Int) (w : World) :
    Calls Tryz.prog 7 #[.int .i64 x] w fun e w' => e = .returned (.int .i64 x) ∧ w' = w := by
  go_enter Tryz.func7, Tryz.ntmps7
  go_wp2
  go_ret
  exact ⟨rfl, rfl⟩
end Go.Proofs.YtlghjjennhpjeaaGreatDoor

/-
  What the statement on Rows answers.
-/
namespace Go.Proofs.YtlghjjennhpjeaaGreatDoor
open Go.RowKit Go.Deep

theorem Below.cellRow {w w' : World} {B b n : Nat} {t : TypeId} {f : Nat → Value} (h : Below B w w') (hb : b < B) (hr : w.rowIs b t n f) : w'.rowIs b t n f := hr.of_block (h.block b hb)

end Go.Proofs.YtlghjjennhpjeaaGreatDoor

/-
  What each byte makes with a factor; a list of bytes times a factor; a multiple of a list added to another: run alone.
-/
namespace Go.Proofs.YtlghjjennhpjeaaGreatDoor
open Go.RowKit Go.Deep

theorem wp_op_load {P : Program} {o : Oper} {a : Act} {w : World} {K : Act → World → Prop} {Q : Exit → Act → World → Prop} {t : TypeId} {x : Operand} {N : Nat} {v : Value} (ho : o.op = .load t x) (hx : a.eval x = .pointer (some ⟨N, 0, none⟩)) (hl : (loadVar t ⟨N, 0, none⟩).run P w = .ok v w) (h : K (a.put o.dst v) w) : o.wp P a w K Q := by
  unfold Oper.wp
  rw [run_op_load ho hx hl]
  exact h
theorem wp_op_store {P : Program} {o : Oper} {a : Act} {w w' : World} {K : Act → World → Prop} {Q : Exit → Act → World → Prop} {t : TypeId} {x y : Operand} {N : Nat} {v : Value} (ho : o.op = .store t x y) (hx : a.eval x = .pointer (some ⟨N, 0, none⟩)) (hy : a.eval y = v) (hl : (storeVar t ⟨N, 0, none⟩ v).run P w = .ok () w') (h : K (a.put o.dst undef) w') : o.wp P a w K Q := by
  unfold Oper.wp
  rw [run_op_store ho hx hy hl]
  exact h

theorem run_cells256 {w : World} {N : Nat} {c c' : Array Value} (h : w.heap[N]? = some (.cells c 197)) (hc : c.size = 256) (hc' : c'.size = 256) (h1 : ∀ v ∈ c', v.oneCell' = true) :
    (storeCells ⟨N, 0, none⟩ c'.toList).run Tryz.prog w = .ok () (w.setRow N c') := by
  have := run_storeCells_from (P := Tryz.prog) N _ c'.toList 0 c w h (by simp; omega) (fun v hv => h1 v (by simpa using hv))
  rw [this]
  congr 2

/-- Two tables: the result's variable, and the one that is filled. -/
structure PT (w : World) (f m : Nat) (w' : World) : Prop where
  h2 : w'.heap[w.heap.size]? = some (.cells Tryz.zeroCells197 197)
  h3 : w'.heap[w.heap.size + 1]? = some (.cells (ptab f m) 197)
  size : w'.heap.size = w.heap.size + 2
  below : Below w.heap.size w w'
theorem PT.start (w : World) (f : Nat) : PT w f 1 ((w.alloc (.cells Tryz.zeroCells197 197)).alloc (.cells Tryz.zeroCells197 197)) := by
  have e : ptab f 1 = Tryz.zeroCells197 := by
    rw [ptab_zero f, ← ptab_set f 0]
    apply Array.ext_getElem?
    intro i
    rw [Array.getElem?_setIfInBounds]
    by_cases h : 0 = i
    · subst h
      rw [if_pos rfl, if_pos (by simp [ptab]), ptab_get f 0 0 (by omega), zero_mul]
      rfl
    · rw [if_neg h]
  refine ⟨?_, ?_, by simp, ((Below.refl _ _).alloc (Nat.le_refl _) _).alloc (by simp) _⟩
  · show ((w.heap.push _).push _)[w.heap.size]? = _
    rw [Array.getElem?_push, if_neg (by rw [Array.size_push]; omega), Array.getElem?_push, if_pos rfl]
  · show ((w.heap.push _).push _)[w.heap.size + 1]? = _
    rw [Array.getElem?_push, if_pos (by simp), e]
theorem PT.set {w w' : World} {f m : Nat} (h : PT w f m w') : PT w f (m + 1) (w'.setCell ⟨w.heap.size + 1, m, none⟩ (.int .u8 ((mul m f : Nat) : Int))) :=
  ⟨(heap_setCell_other w' ⟨w.heap.size + 1, m, none⟩ w.heap.size _ (by show w.heap.size ≠ w.heap.size + 1; omega)).trans h.h2, by rw [heap_set _ h.h3, ptab_set], by simpa using h.size, h.below.setCell (by show w.heap.size ≤ w.heap.size + 1; omega) _⟩

set_option maxHeartbeats 2000000 in
set_option maxRecDepth 100000 in
theorem products_any (f : Nat) (hf : f < 256) (w : World) :
    Calls Tryz.prog 124 #[.int .u8 (f : Int)] w fun e w' => e = .returned (.agg (ptab f 256)) ∧ Below w.heap.size w w' := by
  have h0 := PT.start w f
  generalize hz : Tryz.zeroCells197 = Z at h0
  go_enter Tryz.func124, Tryz.ntmps124
  go_wp2
  generalize (w.alloc (Obj.cells Z 197)).alloc (Obj.cells Z 197) = w0 at h0 ⊢
  subst hz
  go_loopw [0, 4] (fun vf vb wr => ∃ k b fa : Nat, k ≤ 8 ∧ IsPow k b ∧ (k < 8 → fa = mul b f) ∧ fa < 256 ∧ vf = .int .u8 (fa : Int) ∧ vb = .int .i64 (b : Int) ∧ PT w f b wr) (fun _ b _ => 512 - (intOf b).toNat)
  case atStart => exact ⟨0, 1, f, by omega, rfl, fun _ => by rw [mul_comm (by omega) hf, mul_one hf], hf, rfl, rfl, h0⟩
  case round =>
    clear h0
    obtain ⟨k, b, fa, hk, hbk, hfa, hfl, rfl, rfl, hT⟩ := hrel
    have hk8 : b ≤ 256 := by
      have : ∀ k : Fin 9, 2 ^ k.val ≤ 256 := by decide
      rw [show b = 2 ^ k from hbk]
      exact this ⟨k, by omega⟩
    have hb1 : 1 ≤ b := by rw [show b = 2 ^ k from hbk]; exact Nat.one_le_two_pow
    by_cases hlt : b < 256
    · have hk7 : k < 8 := by
        rcases Nat.lt_or_ge k 8 with h | h
        · exact h
        · obtain rfl : k = 8 := by omega
          have : b = 256 := hbk
          omega
      obtain rfl := hfa hk7
      clear hfa
      have hlt' : (b : Int) < 256 := by omega
      go_wp2
      go_loopw [11] (fun vj wr => ∃ j : Nat, j ≤ b ∧ vj = .int .i64 (j : Int) ∧ PT w f (b + j) wr) (fun j _ => b - (intOf j).toNat)
      case atStart => exact ⟨0, by omega, rfl, hT⟩
      case round =>
        clear hT
        obtain ⟨j, hj, rfl, hT⟩ := hrel
        by_cases hjb : j < b
        · have hjb' : (j : Int) < (b : Int) := by omega
          have hbj : b + j < 256 := by
            have : ∀ k : Fin 8, 2 ^ k.val * 2 ≤ 256 := by decide
            have := this ⟨k, hk7⟩
            have e : b = 2 ^ k := hbk
            simp only at this
            omega
          have ev : mul (b + j) f = mul j f ^^^ mul b f := by
            have e : b = 2 ^ k := hbk
            rw [e]
            exact pow_add ⟨k, hk7⟩ j f (by rw [← e]; exact hjb)
          have c1 : wr.cell? ⟨w.heap.size + 1, j, none⟩ = some (.int .u8 ((mul j f : Nat) : Int)) := by rw [cell_of _ hT.h3, ptab_get _ _ _ (by omega), if_pos (by omega)]
          have c2 : wr.cell? ⟨w.heap.size + 1, b + j, none⟩ = some (.int .u8 0) := by rw [cell_of _ hT.h3, ptab_get _ _ _ hbj, if_neg (by omega)]; rfl
          have f2 : wr.frozen? ⟨w.heap.size + 1, b + j, none⟩ = false := thaw_of _ hT.h3 _
          have hm1 : mul j f < 256 := mul_lt (by omega)
          have hx : bits .xor .u8 ((mul j f : Nat) : Int) ((mul b f : Nat) : Int) = ((mul (b + j) f : Nat) : Int) := by rw [ev]; exact u8_xor_nat _ _ hm1 hfl
          have hT2 := hT.set
          generalize mul (b + j) f = q at hT2 hx
          generalize mul j f = p at c1 hx hm1
          clear ev
          go_wp2
          go_roundw
          case rel => exact ⟨j + 1, by omega, by go_num, hT2⟩
          case measure => simp [intOf]; omega
        · obtain rfl : j = b := by omega
          have hnl : ¬ ((j : Int) < (j : Int)) := by omega
          have hkb : k + 1 ≤ 8 := by omega
          have htx : k + 1 < 8 → tx (mul j f) = mul (j + j) f := fun h => by
            have e : j = 2 ^ k := hbk
            have := tx_pow ⟨k, by omega⟩ ⟨f, hf⟩
            rw [e, show 2 ^ k + 2 ^ k = 2 ^ (k + 1) by omega]
            exact this
          have hp2 : IsPow (k + 1) (j + j) := by
            have e : j = 2 ^ k := hbk
            show j + j = 2 ^ (k + 1)
            omega
          have htl := tx_lt hfl
          have hct := timesX_any (mul j f) hfl
          generalize mul j f = fa at *
          go_wp2_with (first | (go_at_call 137; (with_reducible refine (hct _).mono ?_); rintro e w' ⟨rfl, hw'⟩; obtain rfl := hw'.symm))
          go_roundw
          case rel => exact ⟨k + 1, j + j, tx fa, hkb, hp2, htx, htl, rfl, by go_num, hT⟩
          case measure => simp [intOf]; omega
    · have e : b = 256 := by omega
      subst e
      have hl := run_load256 hT.h3 (ptab_size f 256)
      have hs := run_cells256 hT.h2 (by rw [ptab_zero f]; exact ptab_size f 0) (ptab_size f 256) (ptab_one f 256)
      have hrow := heap_row (ptab f 256) hT.h2
      have hb2 : Below w.heap.size w (wr.setRow w.heap.size (ptab f 256)) := ⟨hT.below.os, hT.below.tape, hT.below.output, by rw [sz_row]; exact hT.below.size, fun k hk => (heap_row_other wr _ (by omega)).trans (hT.below.block k hk)⟩
      have hsz := ptab_size f 256
      generalize hTT : ptab f 256 = T at *
      go_wp2
      refine wp_op_load rfl rfl hl ?_
      apply_assumption
      go_wp2
      refine bodyPost_ret (results_cell_row (p := 2) rfl _ _ w.heap.size 197 _ (0, 0) _ (by rfl) hrow Tryz.underlying197 rfl (by rw [hsz]; exact a256)) rfl ?_
      exact ⟨by rw [hTT], hb2⟩
end Go.Proofs.YtlghjjennhpjeaaGreatDoor

/-
  Bytes as a field, without conditions; a square of unit rows and of inverses of i exclusive-or j; elimination without exchange.
-/
namespace Go.Proofs.YtlghjjennhpjeaaGreatDoor

abbrev F := Fin 256
namespace F
def add (a b : F) : F := ⟨a.val ^^^ b.val, xor_lt a.isLt b.isLt⟩
def mu (a b : F) : F := ⟨mul a.val b.val, mul_lt a.isLt⟩
def iv (a : F) : F := ⟨inv a.val, inv_lt a.isLt⟩
theorem add_comm (a b : F) : add a b = add b a := Fin.ext (Nat.xor_comm _ _)
theorem add_assoc (a b c : F) : add (add a b) c = add a (add b c) := Fin.ext (Nat.xor_assoc _ _ _)
theorem add_left (a b c : F) : add a (add b c) = add b (add a c) := by rw [← add_assoc, add_comm a b, add_assoc]
theorem add_self (a : F) : add a a = 0 := Fin.ext (Nat.xor_self _)
theorem add_zero (a : F) : add a 0 = a := Fin.ext (Nat.xor_zero _)
theorem zero_add (a : F) : add 0 a = a := by rw [add_comm, add_zero]
theorem add_self_left (a b : F) : add a (add a b) = b := by rw [← add_assoc, add_self, zero_add]
theorem mu_comm (a b : F) : mu a b = mu b a := Fin.ext (mul_comm a.isLt b.isLt)
theorem mu_assoc (a b c : F) : mu (mu a b) c = mu a (mu b c) := Fin.ext (mul_assoc a.isLt b.isLt c.isLt).symm
theorem mu_left (a b c : F) : mu a (mu b c) = mu b (mu a c) := by rw [← mu_assoc, mu_comm a b, mu_assoc]
theorem mu_add (a b c : F) : mu a (add b c) = add (mu a b) (mu a c) := Fin.ext (mul_xor_right _ _ a.isLt)
theorem add_mu (a b c : F) : mu (add a b) c = add (mu a c) (mu b c) := Fin.ext (mul_xor_left _ a.isLt b.isLt)
theorem mu_zero (a : F) : mu a 0 = 0 := Fin.ext (mul_zero a.val)
theorem zero_mu (a : F) : mu 0 a = 0 := by rw [mu_comm, mu_zero]
theorem mu_one (a : F) : mu a 1 = a := Fin.ext (mul_one a.isLt)
theorem one_mu (a : F) : mu 1 a = a := by rw [mu_comm, mu_one]
theorem mu_iv {a : F} (h : a ≠ 0) : mu a (iv a) = 1 := Fin.ext (mul_inv a.isLt fun e => h (Fin.ext e))
theorem iv_mu {a : F} (h : a ≠ 0) : mu (iv a) a = 1 := by rw [mu_comm, mu_iv h]
theorem one_ne : (1 : F) ≠ 0 := by decide
theorem eq_of_add {a b : F} (h : add a b = 0) : a = b := by
  have := congrArg (add a) h
  rw [add_self_left, add_zero] at this
  exact this.symm
theorem add_ne {a b : F} (h : a ≠ b) : add a b ≠ 0 := fun e => h (eq_of_add e)
theorem mu_cancel {a b c : F} (ha : a ≠ 0) (h : mu a b = mu a c) : b = c := by
  have := congrArg (mu (iv a)) h
  rwa [← mu_assoc, ← mu_assoc, iv_mu ha, one_mu, one_mu] at this
theorem mu_ne {a b : F} (ha : a ≠ 0) (hb : b ≠ 0) : mu a b ≠ 0 := fun e => hb (mu_cancel ha (e.trans (mu_zero a).symm))
theorem iv_ne {a : F} (ha : a ≠ 0) : iv a ≠ 0 := fun e => one_ne (by rw [← mu_iv ha, e, mu_zero])

/-- The one identity. -/
theorem key {u a b z : F} (h1 : add u b ≠ 0) (h2 : add z b ≠ 0) (h3 : add u z ≠ 0) (h4 : add a z ≠ 0) (x : F) :
    add (mu (iv (add u z)) (mu x (mu (add a z) (iv (add z b))))) (mu (mu (add a b) (iv (add u b))) (mu (iv (add a z)) (mu x (mu (add a z) (iv (add z b)))))) = mu (mu (add u a) (iv (add u b))) (mu (iv (add u z)) x) := by
  have e4 : mu (iv (add a z)) (mu x (mu (add a z) (iv (add z b)))) = mu x (iv (add z b)) := by
    rw [mu_left x, ← mu_assoc, iv_mu h4, one_mu]
  rw [e4]
  apply mu_cancel h1
  apply mu_cancel h2
  apply mu_cancel h3
  have t1 : mu (add u z) (mu (add z b) (mu (add u b) (mu (iv (add u z)) (mu x (mu (add a z) (iv (add z b))))))) = mu x (mu (add a z) (add u b)) := by
    calc _ = mu (mu (add u z) (iv (add u z))) (mu (mu (add z b) (iv (add z b))) (mu x (mu (add a z) (add u b)))) := by simp only [mu_comm, mu_left]
      _ = _ := by rw [mu_iv h3, mu_iv h2, one_mu, one_mu]
  have t2 : mu (add u z) (mu (add z b) (mu (add u b) (mu (mu (add a b) (iv (add u b))) (mu x (iv (add z b)))))) = mu x (mu (add a b) (add u z)) := by
    calc _ = mu (mu (add u b) (iv (add u b))) (mu (mu (add z b) (iv (add z b))) (mu x (mu (add a b) (add u z)))) := by simp only [mu_comm, mu_left]
      _ = _ := by rw [mu_iv h1, mu_iv h2, one_mu, one_mu]
  have t3 : mu (add u z) (mu (add z b) (mu (add u b) (mu (mu (add u a) (iv (add u b))) (mu (iv (add u z)) x)))) = mu x (mu (add u a) (add z b)) := by
    calc _ = mu (mu (add u b) (iv (add u b))) (mu (mu (add u z) (iv (add u z))) (mu x (mu (add u a) (add z b)))) := by simp only [mu_comm, mu_left]
      _ = _ := by rw [mu_iv h1, mu_iv h3, one_mu, one_mu]
  rw [mu_add (add u b), mu_add (add z b), mu_add (add u z), t1, t2, t3, ← mu_add]
  refine congrArg (mu x) ?_
  simp only [mu_add, add_mu]
  simp only [mu_comm, add_assoc, add_comm, add_left, add_self_left, add_self, zero_add]

/-- Sums over a list of places. -/
def sum : List Nat → (Nat → F) → F
  | [], _ => 0
  | i :: l, f => add (f i) (sum l f)
theorem sum_congr {l : List Nat} {f g : Nat → F} (h : ∀ i ∈ l, f i = g i) : sum l f = sum l g := by
  induction l with
  | nil => rfl
  | cons i l ih => rw [sum, sum, h i (by simp), ih fun j hj => h j (by simp [hj])]
theorem sum_add (l : List Nat) (f g : Nat → F) : sum l (fun i => add (f i) (g i)) = add (sum l f) (sum l g) := by
  induction l with
  | nil => exact (add_zero 0).symm
  | cons i l ih => simp only [sum, ih, add_assoc, add_left]
theorem sum_mu (l : List Nat) (c : F) (f : Nat → F) : sum l (fun i => mu c (f i)) = mu c (sum l f) := by
  induction l with
  | nil => exact (mu_zero c).symm
  | cons i l ih => rw [sum, sum, ih, mu_add]
theorem sum_zero (l : List Nat) {f : Nat → F} (h : ∀ i ∈ l, f i = 0) : sum l f = 0 := by
  induction l with
  | nil => rfl
  | cons i l ih => rw [sum, h i (by simp), ih fun j hj => h j (by simp [hj]), add_zero]
theorem sum_filter (l : List Nat) (p : Nat → Bool) (f : Nat → F) (h : ∀ i ∈ l, p i = false → f i = 0) : sum (l.filter p) f = sum l f := by
  induction l with
  | nil => rfl
  | cons i l ih =>
    have := ih fun j hj => h j (by simp [hj])
    cases hp : p i with
    | true => rw [List.filter_cons_of_pos (by simp [hp]), sum, sum, this]
    | false => rw [List.filter_cons_of_neg (by simp [hp]), sum, this, h i (by simp) hp, zero_add]
theorem sum_single {l : List Nat} (hl : l.Nodup) {f : Nat → F} {t : Nat} (ht : t ∈ l) (h : ∀ i ∈ l, i ≠ t → f i = 0) : sum l f = f t := by
  induction l with
  | nil => cases ht
  | cons i l ih =>
    rw [List.nodup_cons] at hl
    rw [sum]
    rcases List.mem_cons.1 ht with rfl | ht'
    · rw [sum_zero l fun j hj => h j (by simp [hj]) (fun e => hl.1 (e ▸ hj)), add_zero]
    · rw [h i (by simp) (fun e => hl.1 (e ▸ ht')), zero_add]
      exact ih hl.2 ht' fun j hj hne => h j (by simp [hj]) hne

/-- ████ A square of inverses of sums: whatever the right side, there is a solution. -/
theorem cauchy (a b : Nat → F) : ∀ (V : List Nat), V.Nodup → (∀ s ∈ V, ∀ j ∈ V, a s ≠ b j ∧ (s ≠ j → a s ≠ a j ∧ b s ≠ b j)) → ∀ y : Nat → F, ∃ x : Nat → F, (∀ j, j ∉ V → x j = 0) ∧ ∀ s ∈ V, sum V (fun j => mu (iv (add (a s) (b j))) (x j)) = y s
  | [], _, _, _ => ⟨fun _ => 0, fun _ _ => rfl, fun _ h => by cases h⟩
  | t :: V, hn, hd, y => by
    rw [List.nodup_cons] at hn
    have hd' : ∀ s ∈ V, ∀ j ∈ V, a s ≠ b j ∧ (s ≠ j → a s ≠ a j ∧ b s ≠ b j) := fun s hs j hj => hd s (by simp [hs]) j (by simp [hj])
    have ne : ∀ s ∈ V, t ≠ s := fun s hs e => hn.1 (e ▸ hs)
    let c : Nat → F := fun s => mu (add (a t) (b t)) (iv (add (a s) (b t)))
    let d : Nat → F := fun s => mu (add (a s) (b t)) (iv (add (a s) (a t)))
    obtain ⟨x', hx0, hx⟩ := cauchy a b V hn.2 hd' (fun s => mu (add (y s) (mu (c s) (y t))) (d s))
    let x1 : Nat → F := fun j => mu (x' j) (mu (add (a t) (b j)) (iv (add (b j) (b t))))
    let xt : F := mu (add (a t) (b t)) (add (y t) (sum V fun j => mu (iv (add (a t) (b j))) (x1 j)))
    have htt : add (a t) (b t) ≠ 0 := add_ne (hd t (by simp) t (by simp)).1
    have hsum : ∀ s, sum V (fun j => mu (iv (add (a s) (b j))) (if j = t then xt else x1 j)) = sum V (fun j => mu (iv (add (a s) (b j))) (x1 j)) := fun s => sum_congr fun j hj => by rw [if_neg (fun e => ne j hj e.symm)]
    refine ⟨fun j => if j = t then xt else x1 j, fun j hj => ?_, fun s hs => ?_⟩
    · simp only [List.mem_cons, not_or] at hj
      simp only [if_neg hj.1]
      show mu (x' j) _ = 0
      rw [hx0 j hj.2, zero_mu]
    rw [sum, hsum]
    simp only [if_true]
    by_cases hst : s = t
    · subst hst
      show add (mu (iv (add (a s) (b s))) (mu (add (a s) (b s)) _)) _ = _
      rw [← mu_assoc, iv_mu htt, one_mu, add_assoc, add_self, add_zero]
    · have hsV : s ∈ V := by simpa [hst] using hs
      have hst' : add (a s) (b t) ≠ 0 := add_ne (hd s hs t (by simp)).1
      have hsa : add (a s) (a t) ≠ 0 := add_ne ((hd s hs t (by simp)).2 hst).1
      have e1 : mu (iv (add (a s) (b t))) xt = add (mu (c s) (y t)) (sum V fun j => mu (c s) (mu (iv (add (a t) (b j))) (x1 j))) := by
        rw [sum_mu, ← mu_add]
        show mu (iv (add (a s) (b t))) (mu (add (a t) (b t)) _) = mu (mu (add (a t) (b t)) (iv (add (a s) (b t)))) _
        rw [← mu_assoc, mu_comm (iv _) (add (a t) (b t))]
      have e2 : add (sum V fun j => mu (c s) (mu (iv (add (a t) (b j))) (x1 j))) (sum V fun j => mu (iv (add (a s) (b j))) (x1 j)) = add (y s) (mu (c s) (y t)) := by
        rw [← sum_add]
        have : ∀ j ∈ V, add (mu (c s) (mu (iv (add (a t) (b j))) (x1 j))) (mu (iv (add (a s) (b j))) (x1 j)) = mu (mu (add (a s) (a t)) (iv (add (a s) (b t)))) (mu (iv (add (a s) (b j))) (x' j)) := by
          intro j hj
          rw [add_comm]
          exact key hst' (add_ne ((hd j (by simp [hj]) t (by simp)).2 (fun e => ne j hj e.symm)).2) (add_ne (hd' s hsV j hj).1) (add_ne (hd t (by simp) j (by simp [hj])).1) (x' j)
        rw [sum_congr this, sum_mu, hx s hsV]
        show mu (mu (add (a s) (a t)) (iv (add (a s) (b t)))) (mu _ (mu (add (a s) (b t)) (iv (add (a s) (a t))))) = _
        have : ∀ q p p' r r' : F, mu p p' = 1 → mu r r' = 1 → mu (mu p r') (mu q (mu r p')) = q := fun q p p' r r' hp hr => by
          calc _ = mu (mu p p') (mu (mu r r') q) := by simp only [mu_comm, mu_left]
            _ = q := by rw [hp, hr, one_mu, one_mu]
        exact this _ _ _ _ _ (mu_iv hsa) (mu_iv hst')
      rw [e1, add_assoc, e2, add_left, add_comm (mu _ _) (mu _ _), add_self, add_zero]
end F
end Go.Proofs.YtlghjjennhpjeaaGreatDoor

/-
  Elimination without exchange: each corner of the square can be solved, so the turns come out.
-/
namespace Go.Proofs.YtlghjjennhpjeaaGreatDoor
namespace F

/-- A row times a column, of k places. -/
def dot (k : Nat) (r x : Nat → F) : F := sum (List.range k) fun j => mu (r j) (x j)

/-- The square: row s is its own unit row, or a row of inverses of px s exclusive-or j. -/
structure Sq (k : Nat) (px : Nat → F) (M : Nat → Nat → F) : Prop where
  unit : ∀ s, s < k → (px s).val < k → (px s).val = s ∧ ∀ j, j < k → M s j = if j = s then 1 else 0
  inv : ∀ s, s < k → k ≤ (px s).val → ∀ j, j < k → M s j = iv (add (px s) (Fin.ofNat 256 j))
  inj : ∀ s j, s < k → j < k → s ≠ j → px s ≠ px j
  small : k ≤ 256

theorem dot_unit {k : Nat} {r x : Nat → F} {s : Nat} (hs : s < k) (h : ∀ j, j < k → r j = if j = s then 1 else 0) : dot k r x = x s := by
  have := sum_single (l := List.range k) List.nodup_range (f := fun j => mu (r j) (x j)) (t := s) (by simpa using hs) (fun i hi hne => by
    simp only [List.mem_range] at hi
    simp only [h i hi, if_neg hne, zero_mu])
  rw [dot, this]
  simp only [h s hs, if_true, one_mu]

theorem corner {k : Nat} {px : Nat → F} {M : Nat → Nat → F} (h : Sq k px M) {t : Nat} (ht : t < k) : ∃ x : Nat → F, (∀ j, t < j → x j = 0) ∧ (∀ s, s < t → dot k (M s) x = 0) ∧ dot k (M t) x = 1 := by
  let b : Nat → F := fun j => Fin.ofNat 256 j
  have bv : ∀ j, j < k → (b j).val = j := fun j hj => Nat.mod_eq_of_lt (Nat.lt_of_lt_of_le hj h.small)
  have key : ∀ (V : List Nat), V.Nodup → (∀ s ∈ V, s < k ∧ k ≤ (px s).val) → ∀ y : Nat → F, ∃ x : Nat → F, (∀ j, j ∉ V → x j = 0) ∧ ∀ s ∈ V, sum V (fun j => mu (iv (add (px s) (b j))) (x j)) = y s := fun V hn hV y =>
    cauchy px b V hn (fun s hs j hj => ⟨fun e => by
      have := congrArg Fin.val e
      rw [bv j (hV j hj).1] at this
      have := (hV s hs).2
      have := (hV j hj).1
      omega, fun hne => ⟨h.inj s j (hV s hs).1 (hV j hj).1 hne, fun e => hne (by have := congrArg Fin.val e; rwa [bv s (hV s hs).1, bv j (hV j hj).1] at this)⟩⟩) y
  -- a sum over the places of V is the sum over all
  have full : ∀ (p : Nat → Bool) (x : Nat → F) (s : Nat), s < k → k ≤ (px s).val → (∀ j, j ∉ (List.range k).filter p → x j = 0) → dot k (M s) x = sum ((List.range k).filter p) (fun j => mu (iv (add (px s) (b j))) (x j)) := fun p x s hs hp hx => by
    rw [sum_filter, dot]
    · exact sum_congr fun j hj => by rw [h.inv s hs hp j (by simpa using hj)]
    · intro j hj hpj
      rw [hx j (by simp [hpj]), mu_zero]
  by_cases htu : (px t).val < k
  · -- row t is a unit row
    let p : Nat → Bool := fun s => decide (s < t) && decide (k ≤ (px s).val)
    obtain ⟨x, hx0, hx⟩ := key ((List.range k).filter p) (List.nodup_range.filter _) (fun s hs => by simp [p] at hs; omega) (fun s => iv (add (px s) (b t)))
    have hxt : x t = 0 := hx0 t (by simp [p])
    have split : ∀ s, dot k (M s) (fun j => if j = t then 1 else x j) = add (dot k (M s) x) (M s t) := fun s => by
      have e1 : ∀ j ∈ List.range k, mu (M s j) (if j = t then 1 else x j) = add (mu (M s j) (x j)) (if j = t then M s t else 0) := fun j _ => by
        by_cases hj : j = t
        · subst hj
          simp only [if_true, hxt, mu_zero, zero_add, mu_one]
        · simp only [if_neg hj, add_zero]
      rw [dot, sum_congr e1, sum_add]
      congr 1
      rw [sum_single (l := List.range k) List.nodup_range (t := t) (by simpa using ht) (fun i _ hne => by simp only [if_neg hne])]
      simp only [if_true]
    refine ⟨fun j => if j = t then 1 else x j, fun j hj => ?_, fun s hs => ?_, ?_⟩
    · simp only [if_neg (show j ≠ t by omega)]
      exact hx0 j (by simp [p]; omega)
    · by_cases hsu : (px s).val < k
      · rw [dot_unit (by omega) (h.unit s (by omega) hsu).2]
        simp only [if_neg (show s ≠ t by omega)]
        exact hx0 s (by simp [p]; omega)
      · have hsV : s ∈ (List.range k).filter p := by simp [p]; omega
        rw [split, full p x s (by omega) (by omega) hx0, hx s hsV, h.inv s (by omega) (by omega) t ht]
        exact add_self _
    · rw [dot_unit ht (h.unit t ht htu).2]
      simp only [if_true]
  · let p : Nat → Bool := fun s => decide (s ≤ t) && decide (k ≤ (px s).val)
    obtain ⟨x, hx0, hx⟩ := key ((List.range k).filter p) (List.nodup_range.filter _) (fun s hs => by simp [p] at hs; omega) (fun s => if s = t then 1 else 0)
    refine ⟨x, fun j hj => hx0 j (by simp [p]; omega), fun s hs => ?_, ?_⟩
    · by_cases hsu : (px s).val < k
      · rw [dot_unit (by omega) (h.unit s (by omega) hsu).2]
        exact hx0 s (by simp [p]; omega)
      · rw [full p x s (by omega) (by omega) hx0, hx s (by simp [p]; omega)]
        simp only [if_neg (show s ≠ t by omega)]
    · rw [full p x t ht (by omega) hx0, hx t (by simp [p]; omega)]
      simp only [if_true]

/-- What the elimination keeps, ahead of turn t. -/
structure Gj (k : Nat) (M : Nat → Nat → F) (t : Nat) (A B : Nat → Nat → F) : Prop where
  same : ∀ x y : Nat → F, (∀ i, i < k → dot k (A i) x = dot k (B i) y) ↔ ∀ i, i < k → dot k (M i) x = y i
  left : ∀ i s, i < k → s < t → A i s = if s = i then 1 else 0
  right : ∀ i s, i < k → t ≤ s → s < k → B i s = if s = i then 1 else 0

theorem gj_start (k : Nat) (M : Nat → Nat → F) : Gj k M 0 M (fun i j => if j = i then 1 else 0) :=
  ⟨fun x y => forall_congr' fun i => forall_congr' fun hi => by rw [dot_unit (r := fun j => if j = i then 1 else 0) hi fun _ _ => rfl],
   fun _ _ _ h => absurd h (by omega), fun _ _ _ _ _ => rfl⟩

theorem pivot {k : Nat} {px : Nat → F} {M A B : Nat → Nat → F} {t : Nat} (h : Sq k px M) (hg : Gj k M t A B) (ht : t < k) : A t t ≠ 0 := by
  obtain ⟨x, hx0, hxs, hxt⟩ := corner h ht
  have := (hg.same x (fun i => dot k (M i) x)).2 (fun _ _ => rfl) t ht
  have e1 : dot k (A t) x = mu (A t t) (x t) := sum_single List.nodup_range (by simpa using ht) fun i hi hne => by
    rcases Nat.lt_or_ge i t with hlt | hge
    · rw [hg.left t i ht hlt, if_neg hne, zero_mu]
    · rw [hx0 i (by omega), mu_zero]
  have e2 : dot k (B t) (fun i => dot k (M i) x) = 1 := by
    have e3 : dot k (B t) (fun i => dot k (M i) x) = mu (B t t) (dot k (M t) x) := sum_single List.nodup_range (by simpa using ht) fun i hi hne => by
      rcases Nat.lt_or_ge i t with hlt | hge
      · show mu (B t i) (dot k (M i) x) = 0
        rw [hxs i hlt, mu_zero]
      · rw [hg.right t i ht hge (by simpa using hi), if_neg hne, zero_mu]
    rw [e3, hxt, hg.right t t ht (Nat.le_refl _) ht]
    simp only [if_true, mu_one]
  rw [e1, e2] at this
  intro e
  rw [e, zero_mu] at this
  exact one_ne this.symm

def scaled (c : F) (r : Nat → F) : Nat → F := fun j => mu (r j) c
def added (c : F) (r q : Nat → F) : Nat → F := fun j => add (r j) (mu (q j) c)
theorem dot_scaled (k : Nat) (c : F) (r x : Nat → F) : dot k (scaled c r) x = mu c (dot k r x) := by
  rw [dot, dot, ← sum_mu]
  exact sum_congr fun j _ => by simp only [scaled, mu_comm, mu_left]
theorem dot_added (k : Nat) (c : F) (r q x : Nat → F) : dot k (added c r q) x = add (dot k r x) (mu c (dot k q x)) := by
  rw [dot, dot, dot, ← sum_mu, ← sum_add]
  exact sum_congr fun j _ => by
    rw [added, add_mu]
    simp only [mu_comm, mu_left]

/-- The rows behind turn t. -/
def turnA (A : Nat → Nat → F) (t i : Nat) : Nat → F := if i = t then scaled (iv (A t t)) (A t) else added (A i t) (A i) (scaled (iv (A t t)) (A t))
def turnB (A B : Nat → Nat → F) (t i : Nat) : Nat → F := if i = t then scaled (iv (A t t)) (B t) else added (A i t) (B i) (scaled (iv (A t t)) (B t))

theorem gj_turn {k : Nat} {px : Nat → F} {M A B : Nat → Nat → F} {t : Nat} (h : Sq k px M) (hg : Gj k M t A B) (ht : t < k) : Gj k M (t + 1) (turnA A t) (turnB A B t) := by
  have hp := pivot h hg ht
  refine ⟨fun x y => ?_, fun i s hi hs => ?_, fun i s hi hs hs' => ?_⟩
  · rw [← hg.same x y]
    constructor
    · intro e i hi
      have et := e t ht
      simp only [turnA, turnB, if_true, dot_scaled] at et
      have et' := mu_cancel (iv_ne hp) et
      by_cases hit : i = t
      · subst hit; exact et'
      · have ei := e i hi
        simp only [turnA, turnB, if_neg hit, dot_added, dot_scaled, et'] at ei
        have := congrArg (add (mu (A i t) (mu (iv (A t t)) (dot k (B t) y)))) ei
        rwa [add_left, add_self, add_zero, add_left, add_self, add_zero] at this
    · intro e i hi
      by_cases hit : i = t
      · subst hit
        simp only [turnA, turnB, if_true, dot_scaled, e i hi]
      · simp only [turnA, turnB, if_neg hit, dot_added, dot_scaled, e i hi, e t ht]
  · have tt : ∀ s, s < t + 1 → scaled (iv (A t t)) (A t) s = if s = t then 1 else 0 := fun s hs => by
      by_cases hst : s = t
      · subst hst
        simp only [scaled, if_true, mu_iv hp]
      · simp only [scaled, hg.left t s ht (by omega), if_neg hst, zero_mu]
    by_cases hit : i = t
    · subst hit
      simp only [turnA, if_true]
      exact tt s hs
    · simp only [turnA, if_neg hit, added, tt s hs]
      by_cases hst : s = t
      · subst hst
        simp only [if_true, one_mu, add_self]
        rw [if_neg (fun e => hit e.symm)]
      · simp only [if_neg hst, zero_mu, add_zero]
        exact hg.left i s hi (by omega)
  · have tt : ∀ s, t + 1 ≤ s → s < k → scaled (iv (A t t)) (B t) s = 0 := fun s hs hs' => by
      simp only [scaled, hg.right t s ht (by omega) hs', if_neg (show s ≠ t by omega), zero_mu]
    by_cases hit : i = t
    · subst hit
      simp only [turnB, if_true]
      rw [tt s hs hs', if_neg (by omega)]
    · simp only [turnB, if_neg hit, added, tt s hs hs', zero_mu, add_zero]
      exact hg.right i s hi (by omega) hs'

/-- ████ At the end: what the right side makes of y, the square makes y again. -/
theorem gj_end {k : Nat} {M A B : Nat → Nat → F} (hg : Gj k M k A B) (y : Nat → F) : ∀ i, i < k → dot k (M i) (fun j => dot k (B j) y) = y i := by
  refine (hg.same (fun j => dot k (B j) y) y).1 fun i hi => ?_
  rw [dot_unit hi fun j hj => by rw [hg.left i j hi hj]]
end F
end Go.Proofs.YtlghjjennhpjeaaGreatDoor

/-
  A list of bytes times a factor; a multiple of a list added to another: run alone.
-/
namespace Go.Proofs.YtlghjjennhpjeaaGreatDoor
open Go.RowKit Go.Deep

/-- Blocks of S may have turned. -/
structure Oth (S : Nat → Prop) (w w' : World) : Prop where
  os : w'.os = w.os
  tape : w'.tape = w.tape
  output : w'.output = w.output
  size : w.heap.size ≤ w'.heap.size
  block : ∀ k, k < w.heap.size → ¬ S k → w'.heap[k]? = w.heap[k]?
theorem Oth.refl (S : Nat → Prop) (w : World) : Oth S w w := ⟨rfl, rfl, rfl, Nat.le_refl _, fun _ _ _ => rfl⟩
theorem Oth.below {S : Nat → Prop} {w w' : World} (h : Below w.heap.size w w') : Oth S w w' := ⟨h.os, h.tape, h.output, h.size, fun k hk _ => h.block k hk⟩
theorem Oth.trans {S S' : Nat → Prop} {w w' w'' : World} (h : Oth S w w') (h' : Oth S' w' w'') (hs : ∀ k, k < w.heap.size → S' k → S k) : Oth S w w'' :=
  ⟨h'.os.trans h.os, h'.tape.trans h.tape, h'.output.trans h.output, Nat.le_trans h.size h'.size, fun k hk hn => (h'.block k (Nat.lt_of_lt_of_le hk h.size) fun x => hn (hs k hk x)).trans (h.block k hk hn)⟩
theorem Oth.mono {S S' : Nat → Prop} {w w' : World} (h : Oth S w w') (hs : ∀ k, S k → S' k) : Oth S' w w' := ⟨h.os, h.tape, h.output, h.size, fun k hk hn => h.block k hk fun x => hn (hs k x)⟩
theorem Oth.set {S : Nat → Prop} {w w' : World} (h : Oth S w w') {a : Addr} (ha : S a.block ∨ w.heap.size ≤ a.block) (v : Value) : Oth S w (w'.setCell a v) :=
  ⟨h.os, h.tape, h.output, by simpa using h.size, fun k hk hn => (heap_setCell_other w' a k v (by rcases ha with x | x; exact fun e => hn (e ▸ x); omega)).trans (h.block k hk hn)⟩
theorem Oth.alloc {S : Nat → Prop} {w w' : World} (h : Oth S w w') (o : Obj) : Oth S w (w'.alloc o) := h.trans (S' := fun _ => False) (.below ((Below.refl _ _).alloc (Nat.le_refl _) _)) (fun _ _ x => x.elim)
theorem Oth.drew {S : Nat → Prop} {w w' : World} (h : Oth S w w') : Oth S w w'.drew := ⟨h.os, h.tape, h.output, h.size, h.block⟩
theorem Oth.row {S : Nat → Prop} {w w' : World} (h : Oth S w w') {b n : Nat} {t : TypeId} {f : Nat → Value} (hb : b < w.heap.size) (hn : ¬ S b) (hr : w.rowIs b t n f) : w'.rowIs b t n f := hr.of_block (h.block b hb hn)

def fv (a : Nat → F) (j : Nat) : Value := .int .u8 ((a j).val : Int)
theorem run_tab {T : Array Value} (hT : T.size = 256) (h1 : ∀ v ∈ T, v.oneCell' = true) (w : World) : (storeCells ⟨w.heap.size, 0, none⟩ T.toList).run Tryz.prog (w.alloc (.cells Tryz.zeroCells197 197)) = .ok () (w.alloc (.cells T 197)) := by
  rw [run_cells256 (heap_alloc_new _ _) (by rw [ptab_zero 0]; exact ptab_size 0 0) hT h1, World.setRow_alloc_new]

set_option maxHeartbeats 2000000 in
set_option maxRecDepth 100000 in
theorem scale_any (b k cap : Nat) (a : Nat → F) (f : F) (w : World) (hk : k ≤ 128) (hr : w.rowIs b 5 k (fv a)) (hb : b < w.heap.size) :
    Calls Tryz.prog 95 #[.slice (some ⟨b, 0, none⟩) k cap, .int .u8 (f.val : Int)] w fun e w' => e = .returned (.tuple #[]) ∧ w'.rowIs b 5 k (fv (F.scaled f a)) ∧ Oth (· = b) w w' := by
  have hpr := products_any f.val f.isLt
  have hrun := run_tab (ptab_size f.val 256) (ptab_one f.val 256)
  have hget : ∀ x, x < 256 → (ptab f.val 256)[x]? = some (.int .u8 ((mul x f.val : Nat) : Int)) := fun x hx => by rw [ptab_get _ _ _ hx, if_pos hx]
  have hsz := ptab_size f.val 256
  generalize ptab f.val 256 = T at hpr hrun hget hsz
  have hfv : ∀ j, (F.scaled f a j).val = mul (a j).val f.val := fun _ => rfl
  generalize hfn : f.val = fn at hpr hget hfv ⊢
  clear hfn
  go_enter Tryz.func95, Tryz.ntmps95
  go_wp2_with (first | (go_at_call 124; (with_reducible refine (hpr _).mono ?_); rintro e w1 ⟨rfl, hb1⟩; have hrun1 := hrun w1))
  have hw0 : Oth (· = b) w (w1.alloc (.cells T 197)) := (Oth.below hb1).alloc _
  have htab : (w1.alloc (.cells T 197)).heap[w1.heap.size]? = some (.cells T 197) := heap_alloc_new _ _
  have hbn : b < w1.heap.size := Nat.lt_of_lt_of_le hb hb1.size
  have hr1 : (w1.alloc (.cells T 197)).rowIs b 5 k (fv a) := (hr.of_block (hb1.block b hb)).alloc _
  have hwn := hb1.size
  generalize w1.heap.size = N at *
  generalize w1.alloc (.cells T 197) = w2 at hw0 htab hr1 ⊢
  clear hrun hrun1 hb1 hpr
  go_loopw [11] (fun vj wr => ∃ c : Nat, c ≤ k ∧ vj = .int .i64 (c : Int) ∧ wr.rowIs b 5 k (fun j => if j < c then fv (F.scaled f a) j else fv a j) ∧ Oth (· = b) w wr ∧ wr.heap[N]? = some (.cells T 197)) (fun j _ => k - (intOf j).toNat)
  case atStart => exact ⟨0, by omega, rfl, hr1.congr (fun j _ => by rw [if_neg (by omega)]), hw0, htab⟩
  case round =>
    clear hr1 hw0 htab
    obtain ⟨c, hc, rfl, hR, hO, hT⟩ := hrel
    by_cases hlt : c < k
    · have hlt' : (c : Int) < (k : Int) := by omega
      have c1 : wr.cell? ⟨b, c, none⟩ = some (.int .u8 ((a c).val : Int)) := by
        have := hR.cell hlt
        rw [if_neg (by omega)] at this
        exact this
      have fz := hR.frozen c
      have hax := (a c).isLt
      have c2 : wr.cell? ⟨N, (a c).val, none⟩ = some (.int .u8 ((mul (a c).val fn : Nat) : Int)) := by rw [cell_of _ hT, hget _ hax]
      have hR2 := hR.set c (.int .u8 ((mul (a c).val fn : Nat) : Int))
      have hR3 : (wr.setCell ⟨b, c, none⟩ (.int .u8 ((mul (a c).val fn : Nat) : Int))).rowIs b 5 k (fun j => if j < c + 1 then fv (F.scaled f a) j else fv a j) := hR2.congr fun j _ => by
        by_cases e : j = c
        · subst e
          rw [if_pos rfl, if_pos (by omega), fv, hfv]
        · rw [if_neg e]
          by_cases h : j < c
          · rw [if_pos h, if_pos (by omega)]
          · rw [if_neg h, if_neg (by omega)]
      have hO2 := hO.set (a := ⟨b, c, none⟩) (.inl rfl) (.int .u8 ((mul (a c).val fn : Nat) : Int))
      have hT2 := (heap_setCell_other wr ⟨b, c, none⟩ N (.int .u8 ((mul (a c).val fn : Nat) : Int)) (by show N ≠ b; omega)).trans hT
      clear hR2 hget hfv
      generalize mul (a c).val fn = q at *
      generalize (a c).val = x at *
      go_wp2
      go_roundw
      case rel => exact ⟨c + 1, by omega, by go_num, hR3, hO2, hT2⟩
      case measure => simp [intOf]; omega
    · obtain rfl : c = k := by omega
      have hnl : ¬ ((c : Int) < (c : Int)) := by omega
      go_wp2
      go_end0
      exact ⟨rfl, hR.congr fun j hj => by rw [if_pos hj], hO⟩

theorem added_zero (a q : Nat → F) : F.added 0 a q = a := by
  funext j
  rw [F.added, F.mu_zero, F.add_zero]

set_option maxHeartbeats 2000000 in
set_option maxRecDepth 100000 in
theorem addTimes_any (b b2 k cap cap2 : Nat) (a a2 : Nat → F) (f : F) (w : World) (hk : k ≤ 128) (hr : w.rowIs b 5 k (fv a)) (hr2 : w.rowIs b2 5 k (fv a2)) (hb : b < w.heap.size) (hb2 : b2 < w.heap.size) (hne : b2 ≠ b) :
    Calls Tryz.prog 110 #[.slice (some ⟨b, 0, none⟩) k cap, .int .u8 (f.val : Int), .slice (some ⟨b2, 0, none⟩) k cap2] w fun e w' => e = .returned (.tuple #[]) ∧ w'.rowIs b 5 k (fv (F.added f a a2)) ∧ Oth (· = b) w w' := by
  by_cases hz : f = 0
  · subst hz
    rw [added_zero, show ((0 : F).val : Int) = 0 from rfl]
    go_enter Tryz.func110, Tryz.ntmps110
    go_wp2
    refine bodyPost_ret (results_none rfl _ _ _) rfl ?_
    exact ⟨rfl, hr, Oth.refl _ _⟩
  have hpr := products_any f.val f.isLt
  have hrun := run_tab (ptab_size f.val 256) (ptab_one f.val 256)
  have hget : ∀ x, x < 256 → (ptab f.val 256)[x]? = some (.int .u8 ((mul x f.val : Nat) : Int)) := fun x hx => by rw [ptab_get _ _ _ hx, if_pos hx]
  have hsz := ptab_size f.val 256
  generalize ptab f.val 256 = T at hpr hrun hget hsz
  have hfv : ∀ j, (F.added f a a2 j).val = (a j).val ^^^ mul (a2 j).val f.val := fun _ => rfl
  have hz' : ((f.val : Int) == 0) = false := by
    simp only [beq_eq_false_iff_ne, ne_eq]
    intro e
    exact hz (Fin.ext (by show f.val = 0; omega))
  have hml : ∀ j, mul (a2 j).val f.val < 256 := fun j => mul_lt (a2 j).isLt
  generalize hfn : f.val = fn at hpr hget hfv hz' hml ⊢
  clear hfn
  go_enter Tryz.func110, Tryz.ntmps110
  go_wp2_with (first | (go_at_call 124; (with_reducible refine (hpr _).mono ?_); rintro e w1 ⟨rfl, hb1⟩; have hrun1 := hrun w1))
  have hw0 : Oth (· = b) w (w1.alloc (.cells T 197)) := (Oth.below hb1).alloc _
  have htab : (w1.alloc (.cells T 197)).heap[w1.heap.size]? = some (.cells T 197) := heap_alloc_new _ _
  have hbn : b < w1.heap.size := Nat.lt_of_lt_of_le hb hb1.size
  have hbn2 : b2 < w1.heap.size := Nat.lt_of_lt_of_le hb2 hb1.size
  have hr1 : (w1.alloc (.cells T 197)).rowIs b 5 k (fv a) := (hr.of_block (hb1.block b hb)).alloc _
  have hwn := hb1.size
  generalize w1.heap.size = N at *
  generalize w1.alloc (.cells T 197) = w2 at hw0 htab hr1 ⊢
  clear hrun hrun1 hb1 hpr
  go_loopw [15] (fun vj wr => ∃ c : Nat, c ≤ k ∧ vj = .int .i64 (c : Int) ∧ wr.rowIs b 5 k (fun j => if j < c then fv (F.added f a a2) j else fv a j) ∧ Oth (· = b) w wr ∧ wr.heap[N]? = some (.cells T 197)) (fun j _ => k - (intOf j).toNat)
  case atStart => exact ⟨0, by omega, rfl, hr1.congr (fun j _ => by rw [if_neg (by omega)]), hw0, htab⟩
  case round =>
    clear hr1 hw0 htab
    obtain ⟨c, hc, rfl, hR, hO, hT⟩ := hrel
    by_cases hlt : c < k
    · have hlt' : (c : Int) < (k : Int) := by omega
      have c1 : wr.cell? ⟨b, c, none⟩ = some (.int .u8 ((a c).val : Int)) := by
        have := hR.cell hlt
        rw [if_neg (by omega)] at this
        exact this
      have fz := hR.frozen c
      have hax := (a c).isLt
      have hax2 := (a2 c).isLt
      have c3 : wr.cell? ⟨b2, c, none⟩ = some (.int .u8 ((a2 c).val : Int)) := (hO.row hb2 hne hr2).cell hlt
      have c2 : wr.cell? ⟨N, (a2 c).val, none⟩ = some (.int .u8 ((mul (a2 c).val fn : Nat) : Int)) := by rw [cell_of _ hT, hget _ hax2]
      have hml1 := hml c
      have hx := u8_xor_nat _ _ hax hml1
      have hR2 := hR.set c (.int .u8 (((a c).val ^^^ mul (a2 c).val fn : Nat) : Int))
      have hR3 : (wr.setCell ⟨b, c, none⟩ (.int .u8 (((a c).val ^^^ mul (a2 c).val fn : Nat) : Int))).rowIs b 5 k (fun j => if j < c + 1 then fv (F.added f a a2) j else fv a j) := hR2.congr fun j _ => by
        by_cases e : j = c
        · subst e
          rw [if_pos rfl, if_pos (by omega), fv, hfv]
        · rw [if_neg e]
          by_cases h : j < c
          · rw [if_pos h, if_pos (by omega)]
          · rw [if_neg h, if_neg (by omega)]
      have hO2 := hO.set (a := ⟨b, c, none⟩) (.inl rfl) (.int .u8 (((a c).val ^^^ mul (a2 c).val fn : Nat) : Int))
      have hT2 := (heap_setCell_other wr ⟨b, c, none⟩ N (.int .u8 (((a c).val ^^^ mul (a2 c).val fn : Nat) : Int)) (by show N ≠ b; omega)).trans hT
      clear hR2 hget hfv hml
      generalize (a c).val ^^^ mul (a2 c).val fn = r at *
      generalize mul (a2 c).val fn = q at *
      generalize (a c).val = x at *
      generalize (a2 c).val = x2 at *
      go_wp2
      go_region
      have hR4 := hR3.drew
      have hO4 := hO2.drew
      have hT4 : (wr.setCell ⟨b, c, none⟩ (.int .u8 (r : Int))).drew.heap[N]? = some (.cells T 197) := hT2
      generalize (wr.setCell ⟨b, c, none⟩ (.int .u8 (r : Int))).drew = wz at hR4 hO4 hT4 ⊢
      clear hR3 hO2 hT2
      go_wp2
      go_roundw
      case rel => exact ⟨c + 1, by omega, by go_num, hR4, hO4, hT4⟩
      case measure => simp [intOf]; omega
    · obtain rfl : c = k := by omega
      have hnl : ¬ ((c : Int) < (c : Int)) := by omega
      go_wp2
      go_end0
      exact ⟨rfl, hR.congr fun j hj => by rw [if_pos hj], hO⟩
end Go.Proofs.YtlghjjennhpjeaaGreatDoor

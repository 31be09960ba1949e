/-
  When two rows of bytes are told to be the same.
-/
import Derived.Test.YtkpcmfgeanlcnaaRowW
namespace Go.Proofs.Ytkpcmfgeanlcnaa
open Go.RowKit Go.Deep

theorem add_none (b off j : Nat) : (⟨b, off, none⟩ : Addr).add j = ⟨b, off + j, none⟩ := by
  unfold Addr.add
  by_cases h : j = 0 <;> simp [h]
theorem add_block (a : Addr) (j : Nat) : (a.add j).block = a.block := by
  unfold Addr.add
  by_cases h : j = 0 <;> simp [h]
/-- The slice v holds just these bytes. -/
def Holds8 (w : World) (v : Value) (l : List UInt8) : Prop :=
  (v = .slice none 0 0 ∧ l = []) ∨ ∃ a cap, v = .slice (some a) l.length cap ∧ ∀ j (hj : j < l.length), w.cell? (a.add j) = some (.int .u8 (l[j].toNat : Int))

theorem Holds8.string {w : World} {v : Value} {l : List UInt8} (h : Holds8 w v l) : (convert 41 9 v).run Try.prog w = .ok (.string ⟨l.toArray⟩) w := by
  rcases h with ⟨rfl, rfl⟩ | ⟨a, cap, rfl, hc⟩
  · rw [run_convert_bytes_string w 41 9 5 none 0 0 Try.underlying41 Try.underlying5 Try.underlying9]
    rfl
  · exact run_convert_bytes_back w 41 9 5 a cap l Try.underlying41 Try.underlying5 Try.underlying9 hc
/-- It stands in every world that has these cells. -/
theorem Holds8.later {w w' : World} {v : Value} {l : List UInt8} {B : Nat} (h : Holds8 w v l) (hb : Below B w w') (hv : ∀ a n c, v = .slice (some a) n c → a.block < B) : Holds8 w' v l := by
  rcases h with h | ⟨a, cap, rfl, hc⟩
  · exact .inl h
  · refine .inr ⟨a, cap, rfl, fun j hj => ?_⟩
    rw [hb.cell (p := a.add j) (by rw [add_block]; exact hv a _ _ rfl)]
    exact hc j hj

/-- The bytes of a function on places. -/
def u8s (n : Nat) (f : Nat → Nat) : List UInt8 := (List.range n).map fun j => UInt8.ofNat (f j)
theorem u8s_length (n : Nat) (f : Nat → Nat) : (u8s n f).length = n := by simp [u8s]
theorem u8s_at {n : Nat} {f : Nat → Nat} (hf : ∀ j, j < n → f j < 256) (j : Nat) (hj : j < (u8s n f).length) : ((u8s n f)[j].toNat : Int) = (f j : Int) := by
  have hj' : j < n := by simpa [u8s] using hj
  have := hf j hj'
  simp only [u8s, List.getElem_map, List.getElem_range]
  rw [UInt8.toNat_ofNat']
  have e : f j % 2 ^ 8 = f j := Nat.mod_eq_of_lt (by simpa using this)
  rw [e]
theorem holds8_rowIs {w : World} {b n : Nat} {f : Nat → Nat} (h : w.rowIs b 5 n (fun j => .int .u8 (f j : Nat))) (hf : ∀ j, j < n → f j < 256) (cap : Nat) : Holds8 w (.slice (some ⟨b, 0, none⟩) n cap) (u8s n f) := by
  refine .inr ⟨⟨b, 0, none⟩, cap, by rw [u8s_length], fun j hj => ?_⟩
  rw [u8s_at hf j hj]
  have hj' : j < n := by simpa [u8s] using hj
  have := h.cell hj'
  rw [add_none, Nat.zero_add]
  exact this
theorem holds8_owns {w : World} {base n : Nat} {v : Value} {f : Nat → Nat} (h : w.ownsRow base 5 1 v n ((List.range n).map fun j => .int .u8 (f j : Nat))) (hf : ∀ j, j < n → f j < 256) : Holds8 w v (u8s n f) := by
  rcases h.2 with ⟨rfl, rfl⟩ | ⟨g, cap, cur, rfl, _, _, _, _, _, _⟩
  · exact .inl ⟨rfl, by simp [u8s]⟩
  · refine .inr ⟨⟨g, 0, none⟩, cap, by rw [u8s_length], fun j hj => ?_⟩
    have hj' : j < n := by simpa [u8s] using hj
    rw [u8s_at hf j hj]
    have := h.cellAt j (by omega)
    simp only [List.getElem?_map, List.getElem?_range hj'] at this
    rw [add_none, Nat.zero_add]
    exact this

theorem ret_bool {a b : Bool} (h : a = b) : Ending.returned (.bool a) = .returned (.bool b) := by rw [h]
set_option maxHeartbeats 400000 in
set_option maxRecDepth 100000 in
theorem same_any (va vb : Value) (l m : List UInt8) (w : World) (ha : Holds8 w va l) (hb : Holds8 w vb m) :
    Calls Try.prog 24 #[va, vb] w fun e w' => e = .returned (.bool (decide (l = m))) ∧ w' = w := by
  have h1 := ha.string
  have h2 := hb.string
  clear ha hb
  go_enter Try.func24, Try.ntmps24
  go_wp2
  go_ret
  exact ⟨ret_bool (by rw [Bool.eq_iff_iff]; simp), rfl⟩

theorem owns_snoc {w : World} {base e c : Nat} {v : Value} {f : Nat → Nat} {x : Nat} (h : w.ownsRow base e 1 v (c + 1) ((List.range c).map (fun j => Value.int .u8 (f j : Nat)) ++ [.int .u8 (x : Int)])) (hx : f c = x) :
    w.ownsRow base e 1 v (c + 1) ((List.range (c + 1)).map fun j => .int .u8 (f j : Nat)) := by
  rw [List.range_succ, List.map_append]
  simp only [List.map_cons, List.map_nil]
  rw [hx]
  exact h

theorem one_u8 (x : Int) : ∀ u ∈ [Value.int .u8 x], u.oneCell' = true := by intro u hu; simp at hu; subst hu; rfl
theorem below_append {w wr w1 : World} {e c : Nat} {v : Value} {xs : List Value} {o : Obj} (h : Below w.heap.size w wr) (hown : wr.ownsRow w.heap.size e 1 v c xs) (hg : (wr.alloc o).grownBy w1 v.ownBlock) : Below w.heap.size w w1 :=
  (h.alloc h.size o).grown hg (by have := h.size; simp; omega) (fun k hk => (hown.lt k hk).1)

set_option maxHeartbeats 1600000 in
set_option maxRecDepth 100000 in
theorem rrow_any (k i : Nat) (hk : k ≤ 128) (hi : i < 128) (w : World) :
    Calls Try.prog 23 #[.int .i64 (k : Int), .int .i64 (i : Int)] w fun e w' => ∃ v, e = .returned v ∧ w'.ownsRow w.heap.size 5 1 v k ((List.range k).map fun j => .int .u8 (rowV k i j : Nat)) ∧ Below w.heap.size w w' := by
  obtain ⟨i0, hi0, hz0, hz1, hz2⟩ := info_parts Try.infoB
  go_enter Try.func23, Try.ntmps23
  go_wp2
  go_loopw [5, 6, 7] (fun v vi _ wr => ∃ c : Nat, c ≤ k ∧ vi = .int .i64 (c : Int) ∧ wr.ownsRow w.heap.size 5 1 v c ((List.range c).map fun j => .int .u8 (rowV k i j : Nat)) ∧ Below w.heap.size w wr) (fun _ i _ _ => k - (intOf i).toNat)
  case atStart => exact ⟨0, by omega, rfl, World.ownsRow_nil _ _ _ _, Below.refl _ _⟩
  case round =>
    obtain ⟨c, hc, rfl, hown, hbel⟩ := hrel
    have hsz := hbel.size
    by_cases hlt : c < k
    · by_cases hik : i < k
      · by_cases hci : c = i
        · have EX : Hid (rowV k i c = 1) := by
            show rowV k i c = 1
            unfold rowV; rw [if_pos hik, if_pos hci]
          have hci' : ((i : Int) == (c : Int)) = true := by simp; omega
          clear hci
          go_wp2_with (at_builtin; refine wpList_append_own _ rfl _ _ 41 rfl w.heap.size 5 i0 (.int .u8 0) 1 1 Try.underlying41 hi0 hz0 hz1 hz2 rfl (by decide) _ _ _ rfl (hown.alloc _) ⟨wr.heap.size, 0, none⟩ 1 1 [.int .u8 1] rfl rfl (cell_one_new _ _ _) (one_u8 _) (by unfold maxLen; omega) (by omega) (by simp; omega) ?_; intro v' w1 hown' hgrow _)
          have hown2 := owns_snoc (f := rowV k i) hown' EX.out
          have hb2 := below_append hbel hown hgrow
          clear hown' hgrow
          go_wp2
          go_roundw
          case rel => exact ⟨c + 1, by omega, by go_num, hown2, hb2⟩
          case measure => simp [intOf]; omega
        · have EX : Hid (rowV k i c = 0) := by
            show rowV k i c = 0
            unfold rowV; rw [if_pos hik, if_neg hci]
          have hci' : ((i : Int) == (c : Int)) = false := by simp; omega
          clear hci
          go_wp2_with (at_builtin; refine wpList_append_own _ rfl _ _ 41 rfl w.heap.size 5 i0 (.int .u8 0) 1 1 Try.underlying41 hi0 hz0 hz1 hz2 rfl (by decide) _ _ _ rfl (hown.alloc _) ⟨wr.heap.size, 0, none⟩ 1 1 [.int .u8 0] rfl rfl (cell_one_new _ _ _) (one_u8 _) (by unfold maxLen; omega) (by omega) (by simp; omega) ?_; intro v' w1 hown' hgrow _)
          have hown2 := owns_snoc (f := rowV k i) hown' EX.out
          have hb2 := below_append hbel hown hgrow
          clear hown' hgrow
          go_wp2
          go_roundw
          case rel => exact ⟨c + 1, by omega, by go_num, hown2, hb2⟩
          case measure => simp [intOf]; omega
      · have hx : bits .xor .i64 (i : Int) (c : Int) = ((i ^^^ c : Nat) : Int) := i64_xor_nat _ _ (by omega) (by omega)
        have hxl := xor_lt128 hi (show c < 128 by omega)
        obtain ⟨x, ex⟩ : ∃ x, i ^^^ c = x := ⟨_, rfl⟩
        rw [ex] at hx hxl
        have EX : Hid (rowV k i c = inv x) := by
          show rowV k i c = inv x
          unfold rowV; rw [if_neg hik, ex, Nat.mod_eq_of_lt (by omega)]
        clear ex
        go_wp2_with (first | (go_at_call 11; refine (rinv_any _ (by omega) _).mono ?_; rintro e w' ⟨rfl, hw'⟩; obtain rfl := hw'.symm) | (at_builtin; refine wpList_append_own _ rfl _ _ 41 rfl w.heap.size 5 i0 (.int .u8 0) 1 1 Try.underlying41 hi0 hz0 hz1 hz2 rfl (by decide) _ _ _ rfl (hown.alloc _) ⟨wr.heap.size, 0, none⟩ 1 1 [.int .u8 (inv x : Nat)] rfl rfl (cell_one_new _ _ _) (one_u8 _) (by unfold maxLen; omega) (by omega) (by simp; omega) ?_; intro v' w1 hown' hgrow _))
        have hown2 := owns_snoc (f := rowV k i) hown' EX.out
        have hb2 := below_append hbel hown hgrow
        clear hown' hgrow
        go_wp2
        go_roundw
        case rel => exact ⟨c + 1, by omega, by go_num, hown2, hb2⟩
        case measure => simp [intOf]; omega
    · have e : c = k := by omega
      subst e
      go_wp2
      go_ret
      exact ⟨_, rfl, hown, hbel⟩
end Go.Proofs.Ytkpcmfgeanlcnaa

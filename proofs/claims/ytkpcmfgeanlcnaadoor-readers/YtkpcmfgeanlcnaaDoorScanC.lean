/-
  How the document seals bytes: their sum behind them.
-/
import Derived.Test.YtkpcmfgeanlcnaaDoorScanB
namespace Go.Proofs.YtkpcmfgeanlcnaaDoor
open Go.RowKit Go.Deep

theorem infoB8 : (Tryd.prog.info? 5).map (fun i => (i.zero, i.size, i.bytes)) = some (some (.int .u8 0), 1, 1) := by kernel_rfl
def u8V (l : List UInt8) : List Value := l.map fun b => Value.int .u8 (b.toNat : Int)
theorem u8V_length (l : List UInt8) : (u8V l).length = l.length := by simp [u8V]
theorem u8V_at {l : List UInt8} {j : Nat} {u : Value} (h : (u8V l)[j]? = some u) : j < l.length ∧ u = .int .u8 (bAt l j : Int) := by
  obtain ⟨hj, e⟩ := List.getElem?_eq_some_iff.1 h
  have hj' : j < l.length := by simpa [u8V] using hj
  refine ⟨hj', ?_⟩
  rw [← e]
  simp only [u8V, List.getElem_map, bAt, List.getD_eq_getElem?_getD, List.getElem?_eq_getElem hj', Option.getD_some]
theorem u8V_one (l : List UInt8) : ∀ u ∈ u8V l, u.oneCell' = true := by
  intro u hu
  simp only [u8V, List.mem_map] at hu
  obtain ⟨b, _, rfl⟩ := hu
  rfl
theorem add_off (b off j : Nat) : (⟨b, off, none⟩ : Addr).add j = ⟨b, off + j, none⟩ := by
  unfold Addr.add
  by_cases h : j = 0 <;> simp [h]
theorem Byt.news {w : World} {bb bo : Nat} {l : List UInt8} (h : Byt w bb bo l) : ∀ j u, (u8V l)[j]? = some u → w.cell? ((⟨bb, bo, none⟩ : Addr).add j) = some u := by
  intro j u hj
  obtain ⟨h1, rfl⟩ := u8V_at hj
  rw [add_off]; exact h j h1

/-- A number's bytes, the lowest first. -/
def leB : Nat → Nat → List UInt8
  | 0, _ => []
  | n + 1, v => UInt8.ofNat (v % 256) :: leB n (v / 256)
theorem leB_length : ∀ n v, (leB n v).length = n
  | 0, _ => rfl
  | n + 1, v => by simp [leB, leB_length n]
theorem leB_snoc : ∀ n v, leB (n + 1) v = leB n v ++ [UInt8.ofNat (v / 256 ^ n % 256)]
  | 0, v => by simp [leB]
  | n + 1, v => by
    show UInt8.ofNat (v % 256) :: leB (n + 1) (v / 256) = (UInt8.ofNat (v % 256) :: leB n (v / 256)) ++ _
    rw [leB_snoc n (v / 256), List.cons_append, Nat.div_div_eq_div_mul, Nat.pow_succ, Nat.mul_comm]
/-- The sum of bytes. -/
def sumOf (l : List UInt8) : Nat := crc (l.map UInt8.toNat)
theorem map_getD (l : List UInt8) (i : Nat) : (l.map UInt8.toNat).getD i 0 = bAt l i := by
  simp only [bAt, List.getD_eq_getElem?_getD, List.getElem?_map]
  cases l[i]? <;> rfl
theorem u8V_snoc (l : List UInt8) (x : Nat) (hx : x < 256) (m : List UInt8) (e : m = l ++ [UInt8.ofNat x]) : u8V l ++ [.int .u8 (x : Int)] = u8V m := by
  subst e
  simp only [u8V, List.map_append, List.map_cons, List.map_nil]
  rw [UInt8.toNat_ofNat', Nat.mod_eq_of_lt (by simpa using hx)]

theorem rsum_any (bb bo cap : Nat) (l : List UInt8) (hl : l.length < 2 ^ 60) (w : World) (hb : Byt w bb bo l) :
    Calls Tryd.prog 9 #[.slice (some ⟨bb, bo, none⟩) l.length cap] w fun e w' => e = .returned (.int .u64 (sumOf l : Nat)) ∧ w' = w :=
  rsum_row bb bo l.length cap (l.map UInt8.toNat) (by simp) (fun i _ => by rw [map_getD]; exact bAt_lt l i) (by omega) w (fun i hi => by rw [map_getD]; exact hb i hi)

theorem one_u8' (x : Int) : ∀ u ∈ [Value.int .u8 x], u.oneCell' = true := by intro u hu; simp at hu; subst hu; rfl
theorem sumOf_lt (l : List UInt8) : sumOf l < 2 ^ 64 := crc_lt _

set_option maxHeartbeats 1600000 in
set_option maxRecDepth 100000 in
theorem sealed_any (bb bo cap : Nat) (l : List UInt8) (hl : l.length < 2 ^ 40) (w : World) (hb : Byt w bb bo l) (hbb : bb < w.heap.size) :
    Calls Tryd.prog 71 #[.slice (some ⟨bb, bo, none⟩) l.length cap] w fun r w' => ∃ v, r = .returned v ∧ w'.ownsRow w.heap.size 5 1 v (l.length + 8) (u8V (l ++ leB 8 (sumOf l))) ∧ Below w.heap.size w w' := by
  obtain ⟨i0, hi0, hz0, hz1, hz2⟩ := info_parts infoB8
  have hown0 := World.ownsRow_nil w w.heap.size 5 1
  have hs := sumOf_lt l
  obtain ⟨s, es⟩ : ∃ s, sumOf l = s := ⟨_, rfl⟩
  rw [es] at hs
  go_enter Tryd.func71, Tryd.ntmps71
  go_wp2_with (at_builtin; refine wpList_append_own _ rfl _ _ 24 rfl w.heap.size 5 i0 (.int .u8 0) 1 1 Tryd.underlying24 hi0 hz0 hz1 hz2 rfl (by decide) _ _ _ rfl hown0 ⟨bb, bo, none⟩ l.length cap (u8V l) rfl (by rw [u8V_length]; omega) hb.news (u8V_one l) (by unfold maxLen; omega) (by omega) (by omega) ?_; intro v' w1 hown' hgrow _)
  have hb1 : Below w.heap.size w w1 := (Below.refl _ _).grown hgrow (Nat.le_refl _) (fun k hk => by cases hk)
  have hy1 : Byt w1 bb bo l := hb.later (.of_below (S := fun _ => False) hb1) hbb id
  clear hgrow
  go_wp2_with (first | (go_at_call 9; refine (rsum_any bb bo cap l (by omega) _ hy1).mono ?_; rintro r w' ⟨rfl, hw'⟩; obtain rfl := hw'.symm))
  clear hy1 hown0
  have hS : Hid (sumOf l = s) := es
  clear es
  simp only [List.nil_append, Nat.zero_add] at hown'
  go_loopw [3, 4, 5] (fun v vv vi wr => ∃ c : Nat, c ≤ 8 ∧ vv = .int .u64 ((s / 256 ^ c : Nat) : Int) ∧ vi = .int .i64 (c : Int) ∧ wr.ownsRow w.heap.size 5 1 v (l.length + c) (u8V (l ++ leB c s)) ∧ Below w.heap.size w wr) (fun _ _ i _ => 8 - (intOf i).toNat)
  case atStart => exact ⟨0, by omega, by simp, rfl, by simpa [leB] using hown', hb1⟩
  case round =>
    obtain ⟨c, hc, rfl, rfl, hown, hbel⟩ := hrel
    clear hown' hb1 hb
    have hsz := hbel.size
    by_cases hlt : c < 8
    · obtain ⟨y, ey⟩ : ∃ y, s / 256 ^ c = y := ⟨_, rfl⟩
      have hy : y < 2 ^ 64 := by rw [← ey]; exact Nat.lt_of_le_of_lt (Nat.div_le_self _ _) hs
      have EQ : Hid (u8V (l ++ leB c s) ++ [.int .u8 ((y % 256 : Nat) : Int)] = u8V (l ++ leB (c + 1) s)) := u8V_snoc _ (y % 256) (by omega) _ (by rw [leB_snoc, ey, List.append_assoc])
      have DV : Hid (y / 256 = s / 256 ^ (c + 1)) := by rw [← ey, Nat.div_div_eq_div_mul, Nat.pow_succ]; exact rfl
      rw [ey]
      clear ey hs
      go_wp2_with (at_builtin; refine wpList_append_own _ rfl _ _ 24 rfl w.heap.size 5 i0 (.int .u8 0) 1 1 Tryd.underlying24 hi0 hz0 hz1 hz2 rfl (by decide) _ _ _ rfl (hown.alloc _) ⟨wr.heap.size, 0, none⟩ 1 1 [.int .u8 ((y % 256 : Nat) : Int)] rfl rfl (cell_one_new _ _ _) (one_u8' _) (by unfold maxLen; omega) (by omega) (by simp; omega) ?_; intro v2 w2 hown2 hgrow _)
      have hb2 := (hbel.alloc (by omega) (.cells #[Value.int .u8 ((y % 256 : Nat) : Int)] 5)).grown hgrow (by simp; omega) (fun k hk => (hown.lt k hk).1)
      clear hgrow
      go_wp2
      go_roundw
      case rel => exact ⟨c + 1, by omega, by rw [← DV.out]; go_num, by go_num, by rw [← EQ.out]; exact hown2, hb2⟩
      case measure => simp [intOf]; omega
    · have e : c = 8 := by omega
      subst e
      go_wp2
      go_ret
      exact ⟨_, rfl, by rw [hS.out]; exact hown, hbel⟩
theorem sealed_of (bb bo k cap : Nat) (l : List UInt8) (hk : l.length = k) (hl : k < 2 ^ 40) (w : World) (hb : Byt w bb bo l) (hbb : bb < w.heap.size) :
    Calls Tryd.prog 71 #[.slice (some ⟨bb, bo, none⟩) k cap] w fun r w' => ∃ g c, r = .returned (.slice (some ⟨g, 0, none⟩) (k + 8) c) ∧ w.heap.size ≤ g ∧ g < w'.heap.size ∧ Byt w' g 0 (l ++ leB 8 (sumOf l)) ∧ Below w.heap.size w w' := by
  subst hk
  refine (sealed_any bb bo cap l hl w hb hbb).mono ?_
  rintro r w' ⟨v, rfl, h1, h2⟩
  rcases h1.2 with ⟨_, h0⟩ | ⟨g, c, cur, rfl, hg, hh, _⟩
  · omega
  refine ⟨g, c, rfl, hg, (Array.getElem?_eq_some_iff.1 hh).1, fun i hi => ?_, h2⟩
  have hi' : i < l.length + 8 := by simpa [leB_length] using hi
  have hc := h1.cellAt i (by omega)
  rw [Nat.zero_add, hc]
  obtain ⟨u, hu⟩ : ∃ u, (u8V (l ++ leB 8 (sumOf l)))[i]? = some u := ⟨_, List.getElem?_eq_getElem (by simpa [u8V] using hi)⟩
  obtain ⟨_, rfl⟩ := u8V_at hu
  exact hu
end Go.Proofs.YtkpcmfgeanlcnaaDoor

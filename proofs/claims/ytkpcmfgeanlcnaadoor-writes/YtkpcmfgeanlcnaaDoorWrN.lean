/-
  What the document's Padding, Number and manifest answer.
-/
import Derived.Test.YtkpcmfgeanlcnaaDoorWrM
import Derived.Test.YtkpcmfgeanlcnaaDoorWrG
namespace Go.Proofs.YtkpcmfgeanlcnaaDoor
open Go.RowKit Go.Deep

/-- A byte that fills a column up and is not 0. -/
def PadBad (k i t : Nat) (col : List UInt8) : Prop := i < k ∧ ∃ m, m < col.length ∧ t ≤ i * lenC k t + m ∧ bAt col m ≠ 0
def PadTold (r : Ending) (p : Prop) : Prop := ∃ x : Int, r = .returned (.int .i64 x) ∧ -1 ≤ x ∧ x ≤ 9223372036854775807 ∧ (0 ≤ x ↔ p)

set_option maxHeartbeats 2000000 in
set_option maxRecDepth 100000 in
theorem padding_any (K I : Int) (k i : Nat) (hK : K = k) (hI : I = i) (hk : 1 ≤ k) (hk2 : k ≤ 255) (hi : i ≤ 255) (vS vC : Value) (zs : List Int) (hl : zs.length ≤ 9223372036854775807) (hz : SizesOk zs) (hz2 : ∀ i, zs.getD i 0 ≤ 9223372036854775807) (ht : tot zs ≤ 65536) (col : List UInt8) (hcl : col.length ≤ 65536) (w : World) (h : Lies w vS (intV zs)) (hC : Lies w vC (u8V col)) :
    Calls Tryd.prog 49 #[.int .i64 K, vS, .int .i64 I, vC] w fun r w' => w' = w ∧ PadTold r (PadBad k i (tot zs) col) := by
  have K1 := lengthI_any K k hK hk hk2 vS zs hl hz hz2 ht w h
  have K2 := totalI_any vS zs hl hz hz2 w h
  subst hK hI
  have e : totI zs = tot zs := by unfold totI; rw [if_pos ht]
  rw [e] at K2
  have hL := lenC_le hk (tot zs)
  obtain ⟨t, et⟩ : ∃ t, tot zs = t := ⟨_, rfl⟩
  rw [et] at K1 K2 ht hL ⊢
  obtain ⟨ba, cap, rfl, hcap, hc⟩ := hC
  rw [u8V_length] at hcap ⊢
  clear e et h hz hz2 hl
  have hPB : Hid (PadBad k i t col ↔ i < k ∧ ∃ m, m < col.length ∧ t ≤ i * lenC k t + m ∧ bAt col m ≠ 0) := Iff.rfl
  obtain ⟨L, eL⟩ : ∃ L, lenC k t = L := ⟨_, rfl⟩
  rw [eL] at K1 hL hPB
  obtain ⟨p, ep⟩ : ∃ p, i * L = p := ⟨_, rfl⟩
  have hp : p ≤ 255 * 65536 := by rw [← ep]; exact Nat.mul_le_mul hi (by omega)
  have hp2 : (i : Int) * (L : Int) = (p : Int) := by rw [← ep]; simp
  rw [ep] at hPB
  clear eL ep
  go_enter Tryd.func49, Tryd.ntmps49
  go_wp2_with (first | (go_at_call 43; refine K1.mono ?_; rintro r w' ⟨rfl, hw'⟩; obtain rfl := hw'.symm) | (go_at_call 65; refine K2.mono ?_; rintro r w' ⟨rfl, hw'⟩; obtain rfl := hw'.symm))
  clear K1 K2
  go_loop [11] (fun vi => ∃ c : Nat, c ≤ col.length ∧ vi = .int .i64 (c : Int) ∧ Hid (∀ m, m < c → t ≤ p + m → bAt col m = 0)) (fun i => col.length - (intOf i).toNat)
  case atStart => exact ⟨0, by omega, rfl, fun m hm => by omega⟩
  case round =>
    obtain ⟨c, hcl2, rfl, H⟩ := hrel
    by_cases hlt : c < col.length
    · by_cases hik : i < k
      · obtain ⟨b, off, rfl, hcell⟩ := hc c _ (u8V_get hlt)
        have hb := bAt_lt col c
        obtain ⟨y, ey⟩ : ∃ y, bAt col c = y := ⟨_, rfl⟩
        rw [ey] at hcell hb
        have HY : Hid (bAt col c = y) := ey
        clear ey hc
        by_cases hq : t ≤ p + c
        · by_cases hy : y = 0
          · subst hy
            have HN : Hid (∀ m, m < c + 1 → t ≤ p + m → bAt col m = 0) := fun m hm h2 => by
              rcases Nat.lt_or_ge m c with h1 | h1
              · exact H.out m h1 h2
              · obtain rfl : m = c := by omega
                exact HY.out
            clear H
            go_wp2
            go_round
            case rel => exact ⟨c + 1, by omega, by go_num, HN⟩
            case measure => simp [intOf]; omega
          · have hy' : ((y : Int) == 0) = false := by simp; omega
            have hy2 : ((y : Int) != 0) = true := by simp; omega
            have HB : Hid (PadBad k i t col) := hPB.out.2 ⟨hik, c, hlt, hq, by rw [HY.out]; exact hy⟩
            clear H hPB
            go_wp2
            go_ret
            exact ⟨rfl, _, rfl, by omega, by omega, by simp; exact HB.out⟩
        · have HN : Hid (∀ m, m < c + 1 → t ≤ p + m → bAt col m = 0) := fun m hm h2 => H.out m (by omega) h2
          clear H
          go_wp2
          go_round
          case rel => exact ⟨c + 1, by omega, by go_num, HN⟩
          case measure => simp [intOf]; omega
      · have HB : Hid (¬ PadBad k i t col) := fun hx => hik (hPB.out.1 hx).1
        clear H hPB hc
        go_wp2
        go_ret
        exact ⟨rfl, _, rfl, by omega, by omega, by simp; exact HB.out⟩
    · have HB : Hid (¬ PadBad k i t col) := fun hx => by
        obtain ⟨_, m, h1, h2, h3⟩ := hPB.out.1 hx
        exact h3 (H.out m (by omega) h2)
      clear H hPB hc
      go_wp2
      go_ret
      exact ⟨rfl, _, rfl, by omega, by omega, by simp; exact HB.out⟩

set_option maxHeartbeats 1600000 in
set_option maxRecDepth 100000 in
theorem number_any (X N : Int) (x n : Nat) (hX : X = x) (hx : x < 2 ^ 63) (hN : N = n) (hn : n ≤ 8) (w : World) :
    Calls Tryd.prog 70 #[.int .i64 X, .int .i64 N] w fun r w' => Gives w.heap.size w (leB n x) r w' := by
  subst hX hN
  obtain ⟨i0, hi0, hz0, hz1, hz2⟩ := info_parts infoB8
  go_enter Tryd.func70, Tryd.ntmps70
  go_wp2
  go_loopw [0, 5, 6] (fun vv v vi wr => ∃ c : Nat, c ≤ n ∧ vv = .int .i64 ((x / 256 ^ c : Nat) : Int) ∧ vi = .int .i64 (c : Int) ∧ wr.ownsRow w.heap.size 5 1 v c (u8V (leB c x)) ∧ Below w.heap.size w wr ∧ KeepT w wr) (fun _ _ i _ => n - (intOf i).toNat)
  case atStart => exact ⟨0, by omega, by simp, rfl, World.ownsRow_nil _ _ _ _, Below.refl _ _, KeepT.refl _⟩
  case round =>
    obtain ⟨c, hc, rfl, rfl, hown, hbel, hkt⟩ := hrel
    have hsz := hbel.size
    by_cases hlt : c < n
    · obtain ⟨y, ey⟩ : ∃ y, x / 256 ^ c = y := ⟨_, rfl⟩
      have hy : y < 2 ^ 63 := by rw [← ey]; exact Nat.lt_of_le_of_lt (Nat.div_le_self _ _) hx
      have EQ : Hid (u8V (leB c x) ++ [.int .u8 ((y % 256 : Nat) : Int)] = u8V (leB (c + 1) x)) := u8V_snoc _ (y % 256) (by omega) _ (by rw [leB_snoc, ey])
      have DV : Hid (y / 256 = x / 256 ^ (c + 1)) := by rw [← ey, Nat.div_div_eq_div_mul, Nat.pow_succ]; exact rfl
      rw [ey]
      clear ey hx
      go_wp2_with (at_builtin; refine wpList_append_own _ rfl _ _ 24 rfl w.heap.size 5 i0 (.int .u8 0) 1 1 Tryd.underlying24 hi0 hz0 hz1 hz2 rfl (by decide) _ _ _ rfl (hown.alloc _) ⟨wr.heap.size, 0, none⟩ 1 1 [.int .u8 ((y % 256 : Nat) : Int)] rfl rfl (cell_one_new _ _ _) (one_u8' _) (by unfold maxLen; omega) (by omega) (by simp; omega) ?_; intro v2 w2 hown2 hgrow _)
      have hb2 := (hbel.alloc (by omega) (.cells #[Value.int .u8 ((y % 256 : Nat) : Int)] 5)).grown hgrow (by simp; omega) (fun k hk => (hown.lt k hk).1)
      have hk2 : KeepT w w2 := (hkt.alloc _).trans (OwnB.keeps (OwnB.of (hown.alloc _)) hgrow)
      clear hgrow
      go_wp2
      go_roundw
      case rel => exact ⟨c + 1, by omega, by rw [← DV.out]; go_num, by go_num, by rw [← EQ.out]; exact hown2, hb2, hk2⟩
      case measure => simp [intOf]; omega
    · have e : c = n := by omega
      subst e
      go_wp2
      go_ret
      exact ⟨_, rfl, OwnB.of hown, hbel, hkt⟩
end Go.Proofs.YtkpcmfgeanlcnaaDoor

/-
  What the program's small calls for writing answer: lengths, fitting, the first byte that is not 0.
-/
import Derived.Test.YtkpcmfgeanlcnaaDoorWrA
import Derived.Test.YtkpcmfgeanlcnaaDoorSumW
namespace Go.Proofs.YtkpcmfgeanlcnaaDoor
open Go.RowKit Go.Deep

theorem ret_bool' {a b : Bool} (h : a = b) : Ending.returned (.bool a) = .returned (.bool b) := by rw [h]
theorem in64 (n : Int) (hn : -9223372036854775808 ≤ n ∧ n ≤ 9223372036854775807) : wrap64 n = n := (IntWalk.i64_left n).symm.trans (IntWalk.i64_in n hn)

set_option maxHeartbeats 400000 in
set_option maxRecDepth 100000 in
theorem clength_any (K T : Int) (k t : Nat) (hK : K = k) (hT : T = t) (hk : 1 ≤ k) (hk2 : k ≤ 255) (ht : t ≤ 65536) (w : World) :
    Calls Tryd.prog 76 #[.int .i64 K, .int .i64 T] w fun r w' => r = .returned (.int .i64 (lenC k t : Nat)) ∧ w' = w := by
  subst hK hT
  have W1 : Hid (((t : Int) + (k : Int) - 1) / (k : Int) = (lenC k t : Nat)) := by
    show ((t : Int) + (k : Int) - 1) / (k : Int) = (lenC k t : Nat)
    rw [show (t : Int) + (k : Int) - 1 = ((t + k - 1 : Nat) : Int) by omega, ← Int.natCast_ediv]; rfl
  go_enter Tryd.func76, Tryd.ntmps76
  go_wp2
  go_ret
  exact ⟨ret_i64 (by rw [W1.out]), rfl⟩

/-- A call tells yes just where this holds. -/
def Tells (r : Ending) (p : Prop) : Prop := ∃ b : Bool, r = .returned (.bool b) ∧ (b = true ↔ p)
theorem tells_yes {r : Ending} {p : Prop} (h : r = .returned (.bool true)) (hp : p) : Tells r p := ⟨true, h, by simp [hp]⟩
theorem tells_no {r : Ending} {p : Prop} (h : r = .returned (.bool false)) (hp : ¬ p) : Tells r p := ⟨false, h, by simp [hp]⟩
theorem Tells.yes {r : Ending} {p : Prop} (h : Tells r p) (hp : p) : r = .returned (.bool true) := by
  obtain ⟨b, rfl, hb⟩ := h
  rw [hb.2 hp]
theorem Tells.no {r : Ending} {p : Prop} (h : Tells r p) (hp : ¬ p) : r = .returned (.bool false) := by
  obtain ⟨b, rfl, hb⟩ := h
  cases b
  · rfl
  · exact absurd (hb.1 rfl) hp
/-- The first byte from a place on that is not 0, or -1. -/
def FirstNot (l : List UInt8) (F : Int) (r : Ending) : Prop := ∃ x : Int, r = .returned (.int .i64 x) ∧ ((x = -1 ∧ ∀ m : Nat, F ≤ (m : Int) → m < l.length → bAt l m = 0) ∨ ∃ m : Nat, x = (m : Int) ∧ F ≤ (m : Int) ∧ m < l.length ∧ bAt l m ≠ 0 ∧ ∀ m' : Nat, m' < m → F ≤ (m' : Int) → bAt l m' = 0)
set_option maxHeartbeats 1000000 in
set_option maxRecDepth 100000 in
theorem firstNot_any (F : Int) (hF : -1000000000000 ≤ F ∧ F ≤ 1000000000000) (v : Value) (l : List UInt8) (hl : l.length ≤ 9223372036854775807) (w : World) (h : Lies w v (u8V l)) :
    Calls Tryd.prog 77 #[v, .int .i64 F] w fun r w' => w' = w ∧ FirstNot l F r := by
  obtain ⟨ba, cap, rfl, hcap, hc⟩ := h
  rw [u8V_length] at hcap ⊢
  obtain ⟨f, hf⟩ : ∃ f : Nat, f = F.toNat := ⟨_, rfl⟩
  have hmax : max (0 : Int) F = (f : Int) := by omega
  have hfb : f ≤ 1000000000000 := by omega
  go_enter Tryd.func77, Tryd.ntmps77
  go_wp2
  all_goals
    go_loop [5] (fun vi => ∃ c : Nat, f ≤ c ∧ (c ≤ l.length ∨ c = f) ∧ vi = .int .i64 (c : Int) ∧ ∀ m : Nat, m < c → F ≤ (m : Int) → m < l.length → bAt l m = 0) (fun i => l.length - (intOf i).toNat)
    case atStart => exact ⟨f, Nat.le_refl _, .inr rfl, by congr 1; omega, fun m hm hm2 _ => by omega⟩
    case round =>
      obtain ⟨c, hfc, hcl, rfl, hz⟩ := hrel
      by_cases hlt : c < l.length
      · obtain ⟨b, off, rfl, hcell⟩ := hc c _ (u8V_get hlt)
        have hb := bAt_lt l c
        obtain ⟨y, ey⟩ : ∃ y, bAt l c = y := ⟨_, rfl⟩
        rw [ey] at hcell hb
        have HY : Hid (bAt l c = y) := ey
        have HZ : Hid _ := hz
        have HF : Hid (f = F.toNat) := hf
        clear ey hz hc hmax hf hfb
        by_cases hy : y = 0
        · subst hy
          go_wp2
          go_round
          case rel =>
            refine ⟨c + 1, by omega, .inl (by omega), by go_num, fun m hm hm2 hm3 => ?_⟩
            rcases Nat.lt_or_ge m c with h1 | h1
            · exact HZ.out m h1 hm2 hm3
            · obtain rfl : m = c := by omega
              exact HY.out
          case measure => simp [intOf]; omega
        · have hy' : ((y : Int) == 0) = false := by simp; omega
          have hy2 : ((y : Int) != 0) = true := by simp; omega
          go_wp2
          go_ret
          refine ⟨rfl, _, rfl, .inr ⟨c, rfl, ?_, hlt, ?_, fun m' h1 h2 => HZ.out m' h1 h2 (by omega)⟩⟩
          · have := HF.out; omega
          · rw [HY.out]; exact hy
      · clear hc
        have HZ : Hid _ := hz
        clear hz
        go_wp2
        go_ret
        exact ⟨rfl, _, rfl, .inl ⟨rfl, fun m h1 h2 => HZ.out m (by omega) h1 h2⟩⟩

set_option maxHeartbeats 1000000 in
set_option maxRecDepth 100000 in
theorem sizesFit_any (v : Value) (zs : List Int) (hl : zs.length ≤ 9223372036854775807) (hz : SizesOk zs) (w : World) (h : Lies w v (intV zs)) :
    Calls Tryd.prog 90 #[v] w fun r w' => w' = w ∧ Tells r (tot zs ≤ 65536) := by
  obtain ⟨ba, cap, rfl, hcap, hc⟩ := h
  rw [intV_length] at hcap ⊢
  go_enter Tryd.func90, Tryd.ntmps90
  go_wp2
  go_loop [3, 5, 8] (fun vr _ vi => ∃ c r : Nat, c ≤ zs.length ∧ vi = .int .i64 (c : Int) ∧ vr = .int .i64 (r : Int) ∧ Hid (r + totTo zs c = 65536)) (fun _ _ i => zs.length - (intOf i).toNat)
  case atStart => exact ⟨0, 65536, by omega, rfl, rfl, by show _ = _; simp [totTo]⟩
  case round =>
    obtain ⟨c, r, hcl, rfl, rfl, H⟩ := hrel
    have hr : r ≤ 65536 := by have := H.out; omega
    by_cases hlt : c < zs.length
    · obtain ⟨b, off, rfl, hcell⟩ := hc c _ (intV_at hlt)
      have hzc := hz c hlt
      obtain ⟨z, ez⟩ : ∃ z : Nat, zs.getD c 0 = (z : Int) := ⟨(zs.getD c 0).toNat, by omega⟩
      have H2 : Hid (totTo zs (c + 1) = totTo zs c + z) := by
        show _ = _
        rw [totTo_succ, ez]; simp
      have H3 : Hid (totTo zs (c + 1) ≤ tot zs) := totTo_le zs (by omega)
      rw [ez] at hcell
      clear ez hzc hc hz
      by_cases hbig : r < z
      · have HT : Hid (¬ tot zs ≤ 65536) := by
          show ¬ _
          have := H.out; have := H2.out; have := H3.out; omega
        clear H H2 H3
        go_wp2
        go_ret
        exact ⟨rfl, tells_no rfl HT.out⟩
      · have hle : z ≤ r := by omega
        have G : Hid (r - z + totTo zs (c + 1) = 65536) := by
          show _ = _
          have := H.out; have := H2.out; omega
        clear H H2 H3
        go_wp2
        go_round
        case rel => exact ⟨c + 1, r - z, by omega, by go_num, by go_num, G⟩
        case measure => simp [intOf]; omega
    · have e : c = zs.length := by omega
      have HT : Hid (tot zs ≤ 65536) := by
        show _ ≤ _
        have := H.out
        rw [e, totTo_all] at this
        omega
      clear H hc
      go_wp2
      go_ret
      exact ⟨rfl, tells_yes rfl HT.out⟩
theorem manNto_le (ns : List (List UInt8)) (hn : NamesOk ns) : ∀ i, i ≤ ns.length → manNto ns i ≤ 4 + 261 * i
  | 0, _ => by simp [manNto]
  | i + 1, h => by
    have h1 := manNto_le ns hn i (by omega)
    have h2 := (hn i (by omega)).1.2
    rw [manNto_succ]
    omega
set_option maxHeartbeats 1000000 in
set_option maxRecDepth 100000 in
theorem manSize_any (v : Value) (ns : List (List UInt8)) (hl : ns.length ≤ 1000) (hn : NamesOk ns) (w : World) (h : Lies w v (nameV ns)) :
    Calls Tryd.prog 82 #[v] w fun r w' => r = .returned (.int .i64 (manN ns : Nat)) ∧ w' = w := by
  obtain ⟨ba, cap, rfl, hcap, hc⟩ := h
  rw [nameV_length] at hcap ⊢
  go_enter Tryd.func82, Tryd.ntmps82
  go_wp2
  go_loop [3, 5, 8] (fun vr _ vi => ∃ c r : Nat, c ≤ ns.length ∧ vi = .int .i64 (c : Int) ∧ vr = .int .i64 (r : Int) ∧ Hid (manNto ns c = r)) (fun _ _ i => ns.length - (intOf i).toNat)
  case atStart => exact ⟨0, 4, by omega, rfl, rfl, by show _ = _; simp [manNto]⟩
  case round =>
    obtain ⟨c, r, hcl, rfl, rfl, H⟩ := hrel
    by_cases hlt : c < ns.length
    · obtain ⟨b, off, rfl, hcell⟩ := hc c _ (nameV_at hlt)
      have hzc := (hn c hlt).1
      have hr : r ≤ 300000 := by have := manNto_le ns hn c (by omega); rw [H.out] at this; omega
      obtain ⟨s, es⟩ : ∃ s, ns.getD c [] = s := ⟨_, rfl⟩
      have H2 : Hid (manNto ns (c + 1) = r + 6 + s.length) := by
        show _ = _
        rw [manNto_succ, es, H.out]
      rw [es] at hcell hzc
      have hsz : (ByteArray.mk s.toArray).size = s.length := by simp [ByteArray.size]
      clear es hc hn H
      go_wp2
      go_round
      case rel => exact ⟨c + 1, r + 6 + s.length, by omega, by go_num, by go_num, H2⟩
      case measure => simp [intOf]; omega
    · have e : c = ns.length := by omega
      have HT : Hid (manN ns = r) := by
        show _ = _
        rw [← manNto_all, ← e]; exact H.out
      clear H hc
      go_wp2
      go_ret
      exact ⟨ret_i64 (by rw [HT.out]), rfl⟩
end Go.Proofs.YtkpcmfgeanlcnaaDoor

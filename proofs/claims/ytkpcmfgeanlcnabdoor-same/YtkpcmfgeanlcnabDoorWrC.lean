/-
  What the program's small calls for writing answer: lengths, fitting, the first byte that is not 0.
-/
import Derived.Test.YtkpcmfgeanlcnabDoorSumW
namespace Go.Proofs.YtkpcmfgeanlcnabDoor
open Go.RowKit Go.Deep

theorem ret_bool' {a b : Bool} (h : a = b) : Ending.returned (.bool a) = .returned (.bool b) := by rw [h]
theorem in64 (n : Int) (hn : -9223372036854775808 ≤ n ∧ n ≤ 9223372036854775807) : wrap64 n = n := (IntWalk.i64_left n).symm.trans (IntWalk.i64_in n hn)

set_option maxHeartbeats 400000 in
set_option maxRecDepth 100000 in
theorem clength_any (K T : Int) (k t : Nat) (hK : K = k) (hT : T = t) (hk : 1 ≤ k) (hk2 : k ≤ 255) (ht : t ≤ 65536) (w : World) :
    Calls Tryd.prog 42 #[.int .i64 K, .int .i64 T] w fun r w' => r = .returned (.int .i64 (lenC k t : Nat)) ∧ w' = w := by
  subst hK hT
  have W1 : Hid (((t : Int) + (k : Int) - 1) / (k : Int) = (lenC k t : Nat)) := by
    show ((t : Int) + (k : Int) - 1) / (k : Int) = (lenC k t : Nat)
    rw [show (t : Int) + (k : Int) - 1 = ((t + k - 1 : Nat) : Int) by omega, ← Int.natCast_ediv]; rfl
  go_enter Tryd.func42, Tryd.ntmps42
  go_wp2
  go_ret
  exact ⟨ret_i64 (by rw [W1.out]), rfl⟩

/-- A call tells yes just where this holds. -/
def Tells (r : Ending) (p : Prop) : Prop := ∃ b : Bool, r = .returned (.bool b) ∧ (b = true ↔ p)
theorem tells_yes {r : Ending} {p : Prop} (h : r = .returned (.bool true)) (hp : p) : Tells r p := ⟨true, h, by simp [hp]⟩
theorem tells_no {r : Ending} {p : Prop} (h : r = .returned (.bool false)) (hp : ¬ p) : Tells r p := ⟨false, h, by simp [hp]⟩
theorem Tells.yes {r : Ending} {p : Prop} (h : Tells r p) (hp : p) : r = .returned (.bool true) := by
  obtain ⟨b, rfl, hb⟩ := h
  rw [hb.2 hp]
theorem Tells.no {r : Ending} {p : Prop} (h : Tells r p) (hp : ¬ p) : r = .returned (.bool false) := by
  obtain ⟨b, rfl, hb⟩ := h
  cases b
  · rfl
  · exact absurd (hb.1 rfl) hp
/-- The first byte from a place on that is not 0, or -1. -/
def FirstNot (l : List UInt8) (F : Int) (r : Ending) : Prop := ∃ x : Int, r = .returned (.int .i64 x) ∧ ((x = -1 ∧ ∀ m : Nat, F ≤ (m : Int) → m < l.length → bAt l m = 0) ∨ ∃ m : Nat, x = (m : Int) ∧ F ≤ (m : Int) ∧ m < l.length ∧ bAt l m ≠ 0 ∧ ∀ m' : Nat, m' < m → F ≤ (m' : Int) → bAt l m' = 0)
set_option maxHeartbeats 1000000 in
set_option maxRecDepth 100000 in
theorem sizesFit_any (v : Value) (zs : List Int) (hl : zs.length ≤ 9223372036854775807) (hz : SizesOk zs) (w : World) (h : Lies w v (intV zs)) :
    Calls Tryd.prog 26 #[v] w fun r w' => w' = w ∧ Tells r (tot zs ≤ 65536) := by
  obtain ⟨ba, cap, rfl, hcap, hc⟩ := h
  rw [intV_length] at hcap ⊢
  go_enter Tryd.func26, Tryd.ntmps26
  go_wp2
  go_loop [3, 5, 8] (fun vr _ vi => ∃ c r : Nat, c ≤ zs.length ∧ vi = .int .i64 (c : Int) ∧ vr = .int .i64 (r : Int) ∧ Hid (r + totTo zs c = 65536)) (fun _ _ i => zs.length - (intOf i).toNat)
  case atStart => exact ⟨0, 65536, by omega, rfl, rfl, by show _ = _; simp [totTo]⟩
  case round =>
    obtain ⟨c, r, hcl, rfl, rfl, H⟩ := hrel
    have hr : r ≤ 65536 := by have := H.out; omega
    by_cases hlt : c < zs.length
    · obtain ⟨b, off, rfl, hcell⟩ := hc c _ (intV_at hlt)
      have hzc := hz c hlt
      obtain ⟨z, ez⟩ : ∃ z : Nat, zs.getD c 0 = (z : Int) := ⟨(zs.getD c 0).toNat, by omega⟩
      have H2 : Hid (totTo zs (c + 1) = totTo zs c + z) := by
        show _ = _
        rw [totTo_succ, ez]; simp
      have H3 : Hid (totTo zs (c + 1) ≤ tot zs) := totTo_le zs (by omega)
      rw [ez] at hcell
      clear ez hzc hc hz
      by_cases hbig : r < z
      · have HT : Hid (¬ tot zs ≤ 65536) := by
          show ¬ _
          have := H.out; have := H2.out; have := H3.out; omega
        clear H H2 H3
        go_wp2
        go_ret
        exact ⟨rfl, tells_no rfl HT.out⟩
      · have hle : z ≤ r := by omega
        have G : Hid (r - z + totTo zs (c + 1) = 65536) := by
          show _ = _
          have := H.out; have := H2.out; omega
        clear H H2 H3
        go_wp2
        go_round
        case rel => exact ⟨c + 1, r - z, by omega, by go_num, by go_num, G⟩
        case measure => simp [intOf]; omega
    · have e : c = zs.length := by omega
      have HT : Hid (tot zs ≤ 65536) := by
        show _ ≤ _
        have := H.out
        rw [e, totTo_all] at this
        omega
      clear H hc
      go_wp2
      go_ret
      exact ⟨rfl, tells_yes rfl HT.out⟩
theorem manNto_le (ns : List (List UInt8)) (hn : NamesOk ns) : ∀ i, i ≤ ns.length → manNto ns i ≤ 4 + 261 * i
  | 0, _ => by simp [manNto]
  | i + 1, h => by
    have h1 := manNto_le ns hn i (by omega)
    have h2 := (hn i (by omega)).1.2
    rw [manNto_succ]
    omega
set_option maxHeartbeats 1000000 in
set_option maxRecDepth 100000 in
theorem manSize_any (v : Value) (ns : List (List UInt8)) (hl : ns.length ≤ 1000) (hn : NamesOk ns) (w : World) (h : Lies w v (nameV ns)) :
    Calls Tryd.prog 27 #[v] w fun r w' => r = .returned (.int .i64 (manN ns : Nat)) ∧ w' = w := by
  obtain ⟨ba, cap, rfl, hcap, hc⟩ := h
  rw [nameV_length] at hcap ⊢
  go_enter Tryd.func27, Tryd.ntmps27
  go_wp2
  go_loop [3, 5, 8] (fun vr _ vi => ∃ c r : Nat, c ≤ ns.length ∧ vi = .int .i64 (c : Int) ∧ vr = .int .i64 (r : Int) ∧ Hid (manNto ns c = r)) (fun _ _ i => ns.length - (intOf i).toNat)
  case atStart => exact ⟨0, 4, by omega, rfl, rfl, by show _ = _; simp [manNto]⟩
  case round =>
    obtain ⟨c, r, hcl, rfl, rfl, H⟩ := hrel
    by_cases hlt : c < ns.length
    · obtain ⟨b, off, rfl, hcell⟩ := hc c _ (nameV_at hlt)
      have hzc := (hn c hlt).1
      have hr : r ≤ 300000 := by have := manNto_le ns hn c (by omega); rw [H.out] at this; omega
      obtain ⟨s, es⟩ : ∃ s, ns.getD c [] = s := ⟨_, rfl⟩
      have H2 : Hid (manNto ns (c + 1) = r + 6 + s.length) := by
        show _ = _
        rw [manNto_succ, es, H.out]
      rw [es] at hcell hzc
      have hsz : (ByteArray.mk s.toArray).size = s.length := by simp [ByteArray.size]
      clear es hc hn H
      go_wp2
      go_round
      case rel => exact ⟨c + 1, r + 6 + s.length, by omega, by go_num, by go_num, H2⟩
      case measure => simp [intOf]; omega
    · have e : c = ns.length := by omega
      have HT : Hid (manN ns = r) := by
        show _ = _
        rw [← manNto_all, ← e]; exact H.out
      clear H hc
      go_wp2
      go_ret
      exact ⟨ret_i64 (by rw [HT.out]), rfl⟩
end Go.Proofs.YtkpcmfgeanlcnabDoor

/-
  What the program's calls on a list of names and sizes answer.
-/
namespace Go.Proofs.YtkpcmfgeanlcnabDoor
open Go.RowKit Go.Deep

theorem ba_size (s : List UInt8) : (ByteArray.mk s.toArray).size = s.length := by simp [ByteArray.size]

set_option maxHeartbeats 400000 in
set_option maxRecDepth 100000 in
theorem nameFits_yes (s : List UInt8) (h : 1 ≤ s.length ∧ s.length ≤ 255) (w : World) :
    Calls Tryd.prog 14 #[.string ⟨s.toArray⟩] w fun r w' => r = .returned (.bool true) ∧ w' = w := by
  have hsz := ba_size s
  go_enter Tryd.func14, Tryd.ntmps14
  go_wp2
  go_ret
  exact ⟨ret_bool' (by simp; omega), rfl⟩
set_option maxHeartbeats 400000 in
set_option maxRecDepth 100000 in
theorem nameFits_no (s : List UInt8) (h : ¬ (1 ≤ s.length ∧ s.length ≤ 255)) (hs : s.length ≤ 9223372036854775807) (w : World) :
    Calls Tryd.prog 14 #[.string ⟨s.toArray⟩] w fun r w' => r = .returned (.bool false) ∧ w' = w := by
  have hsz := ba_size s
  rcases Nat.eq_zero_or_pos s.length with h0 | h0
  · rw [h0] at hsz
    clear h h0
    go_enter Tryd.func14, Tryd.ntmps14
    go_wp2
    go_ret
    exact ⟨rfl, rfl⟩
  · have h1 : 255 < s.length := by omega
    clear h
    go_enter Tryd.func14, Tryd.ntmps14
    go_wp2
    go_ret
    exact ⟨ret_bool' (by simp; omega), rfl⟩

/-- Up to a place all names and sizes may be. -/
def ListedTo (ns : List (List UInt8)) (zs : List Int) (c : Nat) : Prop := ∀ i, i < c → ((1 ≤ (ns.getD i []).length ∧ (ns.getD i []).length ≤ 255) ∧ (0 < i → notAfter (ns.getD i []) (ns.getD (i - 1) []) = false)) ∧ 0 ≤ zs.getD i 0
theorem ListedTo.next {ns : List (List UInt8)} {zs : List Int} {c : Nat} (h : ListedTo ns zs c) (h1 : 1 ≤ (ns.getD c []).length ∧ (ns.getD c []).length ≤ 255) (h2 : 0 < c → notAfter (ns.getD c []) (ns.getD (c - 1) []) = false) (h3 : 0 ≤ zs.getD c 0) : ListedTo ns zs (c + 1) := by
  intro i hi
  rcases Nat.lt_or_ge i c with x | x
  · exact h i x
  · obtain rfl : i = c := by omega
    exact ⟨⟨h1, h2⟩, h3⟩
/-- Names and sizes that may be. -/
def ListOk (ns : List (List UInt8)) (zs : List Int) : Prop := ns.length = zs.length ∧ NamesOk ns ∧ SizesOk zs
theorem ListedTo.all {ns : List (List UInt8)} {zs : List Int} (hl : ns.length = zs.length) (h : ListedTo ns zs ns.length) : ListOk ns zs :=
  ⟨hl, fun i hi => (h i hi).1, fun i hi => (h i (by omega)).2⟩

/-- Few and small enough. -/
def FewOk (ns : List (List UInt8)) (zs : List Int) : Prop := ns.length ≤ 1000 ∧ tot zs ≤ 65536 ∧ manN ns ≤ 300000
set_option maxHeartbeats 2000000 in
set_option maxRecDepth 100000 in
theorem contentFits_any (vN vS : Value) (ns : List (List UInt8)) (zs : List Int) (hn : ns.length ≤ 9223372036854775807) (hzl : zs.length ≤ 9223372036854775807) (hok : ListOk ns zs) (w : World) (h1 : Lies w vN (nameV ns)) (h2 : Lies w vS (intV zs)) :
    Calls Tryd.prog 19 #[vN, vS] w fun r w' => w' = w ∧ Tells r (FewOk ns zs) := by
  obtain ⟨ba, cap, rfl, hcap, hc⟩ := id h1
  rw [nameV_length] at hcap h1 ⊢
  by_cases q1 : ns.length ≤ 1000
  · have K1 := sizesFit_any vS zs hzl hok.2.2 w h2
    by_cases q2 : tot zs ≤ 65536
    · have K2 := manSize_any _ ns q1 hok.2.1 w h1
      obtain ⟨m, em⟩ : ∃ m, manN ns = m := ⟨_, rfl⟩
      have EM : Hid (manN ns = m) := em
      rw [em] at K2
      have hm : m ≤ 1000000000 := by
        have := manNto_le ns hok.2.1 ns.length (Nat.le_refl _)
        rw [manNto_all, em] at this
        omega
      have Q2 : Hid (tot zs ≤ 65536) := q2
      clear h1 h2 hc em hok q2
      go_enter Tryd.func19, Tryd.ntmps19
      go_wp2_with (first | (go_at_call 26; refine K1.mono ?_; rintro r w' ⟨hw', hb⟩; obtain rfl := hb.yes Q2.out; obtain rfl := hw'.symm) | (go_at_call 27; refine K2.mono ?_; rintro r w' ⟨rfl, hw'⟩; obtain rfl := hw'.symm))
      go_ret
      by_cases q3 : m ≤ 300000
      · exact ⟨rfl, tells_yes (ret_bool' (by simp; omega)) ⟨q1, Q2.out, by rw [EM.out]; exact q3⟩⟩
      · exact ⟨rfl, tells_no (ret_bool' (by simp; omega)) fun h => q3 (by have := h.2.2; rw [EM.out] at this; exact this)⟩
    · have Q2 : Hid (¬ tot zs ≤ 65536) := q2
      clear h1 h2 hc hok q2
      go_enter Tryd.func19, Tryd.ntmps19
      go_wp2_with (first | (go_at_call 26; refine K1.mono ?_; rintro r w' ⟨hw', hb⟩; obtain rfl := hb.no Q2.out; obtain rfl := hw'.symm))
      go_ret
      exact ⟨rfl, tells_no rfl fun h => Q2.out h.2.1⟩
  · clear h1 h2 hc
    go_enter Tryd.func19, Tryd.ntmps19
    go_wp2
    go_ret
    exact ⟨rfl, tells_no rfl fun h => q1 h.1⟩
end Go.Proofs.YtkpcmfgeanlcnabDoor

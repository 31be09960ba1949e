/-
  What the document's calls on sizes answer: Total, Length, fitMany, Padding.
-/
import Derived.Test.YtkpcmfgeanlcnaaDoorWrL
namespace Go.Proofs.YtkpcmfgeanlcnaaDoor
open Go.RowKit Go.Deep

/-- The sizes together; above 65536: 65537. -/
def totI (zs : List Int) : Nat := if tot zs ≤ 65536 then tot zs else 65537

set_option maxHeartbeats 1000000 in
set_option maxRecDepth 100000 in
theorem totalI_any (v : Value) (zs : List Int) (hl : zs.length ≤ 9223372036854775807) (hz : SizesOk zs) (hz2 : ∀ i, zs.getD i 0 ≤ 9223372036854775807) (w : World) (h : Lies w v (intV zs)) :
    Calls Tryd.prog 65 #[v] w fun r w' => r = .returned (.int .i64 (totI zs : Nat)) ∧ w' = w := by
  obtain ⟨ba, cap, rfl, hcap, hc⟩ := h
  rw [intV_length] at hcap ⊢
  go_enter Tryd.func65, Tryd.ntmps65
  go_wp2
  go_loop [3, 4] (fun vt vi => ∃ c t : Nat, c ≤ zs.length ∧ vi = .int .i64 (c : Int) ∧ vt = .int .i64 (t : Int) ∧ t ≤ 65536 ∧ Hid (totTo zs c = t)) (fun _ i => zs.length - (intOf i).toNat)
  case atStart => exact ⟨0, 0, by omega, rfl, rfl, by omega, rfl⟩
  case round =>
    obtain ⟨c, t, hcl, rfl, rfl, ht, H⟩ := hrel
    by_cases hlt : c < zs.length
    · obtain ⟨b, off, rfl, hcell⟩ := hc c _ (intV_at hlt)
      have hzc := hz c hlt
      have hzd := hz2 c
      obtain ⟨z, ez⟩ : ∃ z : Nat, zs.getD c 0 = (z : Int) := ⟨(zs.getD c 0).toNat, by omega⟩
      have H2 : Hid (totTo zs (c + 1) = t + z) := by
        show _ = _
        rw [totTo_succ, ez, H.out]; simp
      have H3 : Hid (totTo zs (c + 1) ≤ tot zs) := totTo_le zs (by omega)
      rw [ez] at hcell hzd
      clear ez hzc hc hz hz2 H
      by_cases hbig : 65536 < z
      · have HT : Hid (totI zs = 65537) := by
          show _ = _
          have := H2.out; have := H3.out
          unfold totI; rw [if_neg (by omega)]
        clear H2 H3
        go_wp2
        go_ret
        exact ⟨by rw [HT.out]; rfl, rfl⟩
      · by_cases hbig2 : 65536 < t + z
        · have HT : Hid (totI zs = 65537) := by
            show _ = _
            have := H2.out; have := H3.out
            unfold totI; rw [if_neg (by omega)]
          clear H2 H3
          go_wp2
          go_ret
          exact ⟨by rw [HT.out]; rfl, rfl⟩
        · clear H3
          go_wp2
          go_round
          case rel => exact ⟨c + 1, t + z, by omega, by go_num, by go_num, by omega, H2⟩
          case measure => simp [intOf]; omega
    · have e : c = zs.length := by omega
      have HT : Hid (totI zs = t) := by
        show _ = _
        have := H.out
        rw [e, totTo_all] at this
        unfold totI; rw [if_pos (by omega), this]
      clear H hc hz hz2
      go_wp2
      go_ret
      exact ⟨ret_i64 (by rw [HT.out]), rfl⟩

theorem lenC_eq {k : Nat} (hk : 1 ≤ k) (t : Nat) : lenC k t = if t / k * k < t then t / k + 1 else t / k := by
  unfold lenC
  have h1 := Nat.div_add_mod t k
  have h2 := Nat.mod_lt t (show 0 < k by omega)
  rw [Nat.mul_comm] at h1
  split
  · rename_i h
    rw [Nat.div_eq_of_lt_le]
    · rw [Nat.add_mul]; omega
    · rw [Nat.add_mul, Nat.add_mul]; omega
  · rename_i h
    rw [Nat.div_eq_of_lt_le]
    · omega
    · rw [Nat.add_mul]; omega

set_option maxHeartbeats 1000000 in
set_option maxRecDepth 100000 in
theorem lengthI_any (K : Int) (k : Nat) (hK : K = k) (hk : 1 ≤ k) (hk2 : k ≤ 255) (v : Value) (zs : List Int) (hl : zs.length ≤ 9223372036854775807) (hz : SizesOk zs) (hz2 : ∀ i, zs.getD i 0 ≤ 9223372036854775807) (ht : tot zs ≤ 65536) (w : World) (h : Lies w v (intV zs)) :
    Calls Tryd.prog 43 #[.int .i64 K, v] w fun r w' => r = .returned (.int .i64 (lenC k (tot zs) : Nat)) ∧ w' = w := by
  subst hK
  have K1 := totalI_any v zs hl hz hz2 w h
  have HL : Hid _ := lenC_eq hk (tot zs)
  have e : totI zs = tot zs := by unfold totI; rw [if_pos ht]
  rw [e] at K1
  obtain ⟨t, et⟩ : ∃ t, tot zs = t := ⟨_, rfl⟩
  rw [et] at K1 HL ht ⊢
  clear et e
  obtain ⟨q, eq⟩ : ∃ q, t / k = q := ⟨_, rfl⟩
  have hq : q ≤ t := eq ▸ Nat.div_le_self _ _
  have hqk : q * k ≤ t := eq ▸ Nat.div_mul_le_self _ _
  rw [eq] at HL
  have W1 : Hid (wrap64 ((t : Int) / (k : Int)) = (q : Int)) := by
    show wrap64 ((t : Int) / (k : Int)) = (q : Int)
    rw [← Int.natCast_ediv, eq]; exact in64 _ (by omega)
  have W2 : Hid (wrap64 ((q : Int) * (k : Int)) = ((q * k : Nat) : Int)) := by
    show wrap64 ((q : Int) * (k : Int)) = ((q * k : Nat) : Int)
    rw [← Int.natCast_mul]; exact in64 _ (by omega)
  have W3 : Hid (wrap64 ((q : Int) + 1) = ((q + 1 : Nat) : Int)) := by
    show wrap64 ((q : Int) + 1) = ((q + 1 : Nat) : Int)
    rw [in64 _ (by omega)]; rfl
  clear hq hqk eq ht
  go_enter Tryd.func43, Tryd.ntmps43
  go_wp2_with (first | (go_at_call 65; refine K1.mono ?_; rintro r w' ⟨rfl, hw'⟩; obtain rfl := hw'.symm))
  · have hx : wrap64 (wrap64 ((t : Int) / (k : Int)) * (k : Int)) < (t : Int) := by assumption
    rw [W1.out, W2.out] at hx
    go_ret
    refine ⟨ret_i64 ?_, rfl⟩
    rw [HL.out, if_pos (by omega), W1.out, W3.out]
  · have hx : (t : Int) ≤ wrap64 (wrap64 ((t : Int) / (k : Int)) * (k : Int)) := by assumption
    rw [W1.out, W2.out] at hx
    go_ret
    refine ⟨ret_i64 ?_, rfl⟩
    rw [HL.out, if_neg (by omega), W1.out]

set_option maxHeartbeats 2000000 in
set_option maxRecDepth 100000 in
theorem fitMany_any (vN vS : Value) (ns : List (List UInt8)) (zs : List Int) (hn : ns.length ≤ 9223372036854775807) (hzl : zs.length ≤ 9223372036854775807) (hok : ListOk ns zs) (hz2 : ∀ i, zs.getD i 0 ≤ 9223372036854775807) (w : World) (h1 : Lies w vN (nameV ns)) (h2 : Lies w vS (intV zs)) :
    Calls Tryd.prog 36 #[vN, vS] w fun r w' => w' = w ∧ Tells r (FewOk ns zs) := by
  have K1 := totalI_any vS zs hzl hok.2.2 hz2 w h2
  have HK : Hid (ListOk ns zs) := hok
  obtain ⟨ba, cap, rfl, hcap, hc⟩ := h1
  rw [nameV_length] at hcap ⊢
  clear hok h2 hz2
  go_enter Tryd.func36, Tryd.ntmps36
  go_wp2
  go_loop [5, 6] (fun vn vi => ∃ (c : Nat) (x : Int), c ≤ ns.length ∧ vi = .int .i64 (c : Int) ∧ vn = .int .i64 x ∧ Hid (ns.length ≤ 1000 → x = (manNto ns c : Nat))) (fun _ i => ns.length - (intOf i).toNat)
  case atStart => exact ⟨0, 4, by omega, rfl, rfl, fun _ => by simp [manNto]⟩
  case round =>
    obtain ⟨c, x, hcl, rfl, rfl, H⟩ := hrel
    by_cases hlt : c < ns.length
    · obtain ⟨b, off, rfl, hcell⟩ := hc c _ (nameV_at hlt)
      have hsc : (ns.getD c []).length ≤ 255 := (HK.out.2.1 c hlt).1.2
      have H2 : Hid _ := manNto_succ ns c
      have H3 : Hid (ns.length ≤ 1000 → manNto ns c ≤ 1000000) := fun hh => by have := manNto_le ns HK.out.2.1 c (by omega); omega
      obtain ⟨s, es⟩ : ∃ s, ns.getD c [] = s := ⟨_, rfl⟩
      rw [es] at hcell hsc H2
      have hsz := ba_size s
      clear es hc
      go_wp2
      go_round
      case rel =>
        refine ⟨c + 1, _, by omega, by go_num, rfl, fun hh => ?_⟩
        have e1 := H.out hh
        have e2 := H3.out hh
        rw [H2.out, e1, in64 ((manNto ns c : Int) + 6) (by omega), in64 _ (by omega)]
        omega
      case measure => simp [intOf]; omega
    · obtain rfl : c = ns.length := by omega
      clear hc
      by_cases q1 : ns.length ≤ 1000
      · have ex := H.out q1
        rw [manNto_all] at ex
        have hmb : manN ns ≤ 1000000 := by have := manNto_le ns HK.out.2.1 ns.length (by omega); rw [manNto_all] at this; omega
        obtain ⟨m, em⟩ : ∃ m, manN ns = m := ⟨_, rfl⟩
        have EM : Hid (manN ns = m) := em
        rw [em] at ex hmb
        subst ex
        clear em H
        by_cases q2 : tot zs ≤ 65536
        · have et : totI zs = tot zs := by unfold totI; rw [if_pos q2]
          rw [et] at K1
          obtain ⟨t, ett⟩ : ∃ t, tot zs = t := ⟨_, rfl⟩
          have ET : Hid (tot zs = t) := ett
          rw [ett] at K1 q2
          clear et ett
          go_wp2_with (first | (go_at_call 65; refine K1.mono ?_; rintro r w' ⟨rfl, hw'⟩; obtain rfl := hw'.symm))
          go_ret
          by_cases q3 : m ≤ 300000
          · exact ⟨rfl, tells_yes (ret_bool' (by simp; omega)) ⟨q1, by rw [ET.out]; exact q2, by rw [EM.out]; exact q3⟩⟩
          · exact ⟨rfl, tells_no (ret_bool' (by simp; omega)) fun h => q3 (by have := h.2.2; rw [EM.out] at this; exact this)⟩
        · have et : totI zs = 65537 := by unfold totI; rw [if_neg q2]
          have Q2 : Hid (¬ tot zs ≤ 65536) := q2
          rw [et] at K1
          clear et q2
          go_wp2_with (first | (go_at_call 65; refine K1.mono ?_; rintro r w' ⟨rfl, hw'⟩; obtain rfl := hw'.symm))
          go_ret
          exact ⟨rfl, tells_no rfl fun h => Q2.out h.2.1⟩
      · clear H
        go_wp2
        go_ret
        exact ⟨rfl, tells_no rfl fun h => q1 h.1⟩
end Go.Proofs.YtkpcmfgeanlcnaaDoor

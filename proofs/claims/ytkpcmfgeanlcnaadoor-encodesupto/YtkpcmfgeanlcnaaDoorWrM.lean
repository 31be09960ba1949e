/-
  What the document's small calls for writing answer.
-/
import Derived.Test.YtkpcmfgeanlcnaaDoorWrE
import Derived.BigQuiet
namespace Go.Proofs.YtkpcmfgeanlcnaaDoor
open Go.RowKit Go.Deep

theorem below_drewN' {B : Nat} {a w : World} (h : Below B a w) (n : Nat) : Below B a (w.drewN n) := h.trans ⟨rfl, rfl, rfl, Nat.le_refl _, fun _ _ => rfl⟩
set_option maxHeartbeats 400000 in
set_option maxRecDepth 100000 in
theorem properP_any (k n : Int) (w : World) :
    Calls Tryd.prog 64 #[.int .i64 k, .int .i64 n] w fun e w' => w' = w ∧ Tells e (PartsOk k n) := by
  by_cases h1 : 1 ≤ k
  · by_cases h2 : k ≤ n
    · have h4 : 1 ≤ n := by omega
      by_cases h3 : n ≤ 128
      · have HF : Hid (PartsOk k n) := ⟨h1, h2, h3⟩
        go_enter Tryd.func64, Tryd.ntmps64
        go_wp2
        go_ret
        exact ⟨rfl, tells_yes rfl HF.out⟩
      · have HF : Hid (¬ PartsOk k n) := fun h => h3 h.2.2
        go_enter Tryd.func64, Tryd.ntmps64
        go_wp2
        go_ret
        exact ⟨rfl, tells_no rfl HF.out⟩
    · have HF : Hid (¬ PartsOk k n) := fun h => h2 h.2.1
      go_enter Tryd.func64, Tryd.ntmps64
      go_wp2
      go_ret
      exact ⟨rfl, tells_no rfl HF.out⟩
  · have HF : Hid (¬ PartsOk k n) := fun h => h1 h.1
    go_enter Tryd.func64, Tryd.ntmps64
    go_wp2
    go_ret
    exact ⟨rfl, tells_no rfl HF.out⟩
set_option maxHeartbeats 400000 in
set_option maxRecDepth 100000 in
theorem fitParams_any (k n c : Int) (w : World) :
    Calls Tryd.prog 33 #[.int .i64 k, .int .i64 n, .int .i64 c] w fun e w' => w' = w ∧ Tells e (ParamsOk k n c) := by
  by_cases h1 : PartsOk k n
  · have H1 : Hid (PartsOk k n) := h1
    clear h1
    by_cases h2 : 1 ≤ c
    · by_cases h3 : c ≤ 65536
      · go_enter Tryd.func33, Tryd.ntmps33
        go_wp2_with (first | (go_at_call 64; refine (properP_any _ _ _).mono ?_; rintro r w' ⟨hw', hb⟩; obtain rfl := hb.yes H1.out; obtain rfl := hw'.symm))
        go_ret
        exact ⟨rfl, tells_yes rfl ⟨H1.out, h2, h3⟩⟩
      · go_enter Tryd.func33, Tryd.ntmps33
        go_wp2_with (first | (go_at_call 64; refine (properP_any _ _ _).mono ?_; rintro r w' ⟨hw', hb⟩; obtain rfl := hb.yes H1.out; obtain rfl := hw'.symm))
        go_ret
        exact ⟨rfl, tells_no (ret_bool' (by simp; omega)) fun h => by have := h.2.2; omega⟩
    · go_enter Tryd.func33, Tryd.ntmps33
      go_wp2_with (first | (go_at_call 64; refine (properP_any _ _ _).mono ?_; rintro r w' ⟨hw', hb⟩; obtain rfl := hb.yes H1.out; obtain rfl := hw'.symm))
      go_ret
      exact ⟨rfl, tells_no (ret_bool' (by simp; try omega)) fun h => by have := h.2.1; omega⟩
  · have H1 : Hid (¬ PartsOk k n) := h1
    clear h1
    go_enter Tryd.func33, Tryd.ntmps33
    go_wp2_with (first | (go_at_call 64; refine (properP_any _ _ _).mono ?_; rintro r w' ⟨hw', hb⟩; obtain rfl := hb.no H1.out; obtain rfl := hw'.symm))
    go_ret
    exact ⟨rfl, tells_no rfl fun h => H1.out h.1⟩

/-- Up to a place all names may be. -/
def NamedTo (ns : List (List UInt8)) (c : Nat) : Prop := ∀ i, i < c → (1 ≤ (ns.getD i []).length ∧ (ns.getD i []).length ≤ 255) ∧ (0 < i → notAfter (ns.getD i []) (ns.getD (i - 1) []) = false)
theorem NamedTo.next {ns : List (List UInt8)} {c : Nat} (h : NamedTo ns c) (h1 : 1 ≤ (ns.getD c []).length ∧ (ns.getD c []).length ≤ 255) (h2 : 0 < c → notAfter (ns.getD c []) (ns.getD (c - 1) []) = false) : NamedTo ns (c + 1) := by
  intro i hi
  rcases Nat.lt_or_ge i c with x | x
  · exact h i x
  · obtain rfl : i = c := by omega
    exact ⟨h1, h2⟩

set_option maxHeartbeats 2000000 in
set_option maxRecDepth 100000 in
theorem fitNames_any (vN : Value) (ns : List (List UInt8)) (hn : ns.length ≤ 9223372036854775807) (hs : ∀ n ∈ ns, n.length ≤ 9223372036854775807) (w : World) (h1 : Lies w vN (nameV ns)) :
    Calls Tryd.prog 35 #[vN] w fun r w' => Below w.heap.size w w' ∧ Tells r (NamesOk ns) := by
  obtain ⟨ba, cap, rfl, hcap, hc⟩ := h1
  rw [nameV_length] at hcap ⊢
  go_enter Tryd.func35, Tryd.ntmps35
  go_wp2
  go_loopw [3] (fun vi wr => ∃ c : Nat, c ≤ ns.length ∧ vi = .int .i64 (c : Int) ∧ Hid (NamedTo ns c) ∧ wr.heap = w.heap ∧ Below w.heap.size w wr) (fun i _ => ns.length - (intOf i).toNat)
  case atStart => exact ⟨0, by omega, rfl, fun i hi => by omega, rfl, Below.refl _ _⟩
  case round =>
    obtain ⟨c, hcl, rfl, H, hh, hB⟩ := hrel
    by_cases hlt : c < ns.length
    · obtain ⟨b, off, rfl, hcell0⟩ := hc c _ (nameV_at hlt)
      have hcell : wr.cell? ⟨b, off + c, none⟩ = some (.string ⟨(ns.getD c []).toArray⟩) := (hB.cell (p := ⟨b, off + c, none⟩) (cell_lt hcell0)).trans hcell0
      have hsc : (ns.getD c []).length ≤ 9223372036854775807 := by
        rw [List.getD_eq_getElem?_getD, List.getElem?_eq_getElem hlt]
        exact hs _ (List.getElem_mem _)
      obtain ⟨s, es⟩ : ∃ s, ns.getD c [] = s := ⟨_, rfl⟩
      rw [es] at hcell hsc
      have ES : Hid (ns.getD c [] = s) := es
      have hsz := ba_size s
      have HH : Hid (wr.heap = w.heap) := hh
      clear es hs hcell0 hh
      have bad : Hid ((1 ≤ s.length ∧ s.length ≤ 255) → (0 < c → notAfter s (ns.getD (c - 1) []) = false) → False) → Hid (¬ NamesOk ns) := by
        intro hb
        show ¬ NamesOk ns
        intro g1
        have g1' := g1 c hlt
        rw [ES.out] at g1'
        exact hb.out g1'.1 g1'.2
      by_cases q0 : 1 ≤ s.length
      · by_cases q1 : s.length ≤ 255
        · have HQ : Hid (1 ≤ s.length ∧ s.length ≤ 255) := ⟨q0, q1⟩
          cases c with
          | zero =>
            have HN : Hid (NamedTo ns (0 + 1)) := H.out.next (by rw [ES.out]; exact HQ.out) (fun h => by omega)
            simp only [Nat.add_zero] at hcell
            clear bad H hc
            go_wp2_with fail
            go_big_quiet (fail)
            go_wp2
            go_roundw
            case rel => exact ⟨1, by omega, by go_num, HN, HH.out, below_drewN' hB _⟩
            case measure => simp [intOf]; omega
          | succ c0 =>
            obtain ⟨b3, off3, e3, hcell30⟩ := hc c0 _ (nameV_at (by omega))
            injection e3 with e3
            injection e3 with e4 e5
            subst e4 e5
            have hcell3 : wr.cell? ⟨b, off + c0, none⟩ = some (.string ⟨(ns.getD c0 []).toArray⟩) := (hB.cell (p := ⟨b, off + c0, none⟩) (cell_lt hcell30)).trans hcell30
            obtain ⟨la, el⟩ : ∃ la, ns.getD c0 [] = la := ⟨_, rfl⟩
            rw [el] at hcell3
            have EL : Hid (ns.getD c0 [] = la) := el
            have hlb : (c0 : Int) < (ns.length : Int) := by omega
            clear el hc hcell30
            rcases hq1 : Op.bytesLess s la with _ | _
            · rcases hq2 : (s == la) with _ | _
              · have HN : Hid (NamedTo ns (c0 + 1 + 1)) := H.out.next (by rw [ES.out]; exact HQ.out) (fun h => by rw [ES.out, Nat.add_sub_cancel, EL.out]; unfold notAfter; rw [hq1, hq2]; rfl)
                clear bad H
                go_wp2_with fail
                go_big_quiet (fail)
                go_wp2
                go_roundw
                case rel => exact ⟨c0 + 1 + 1, by omega, by go_num, HN, HH.out, below_drewN' hB _⟩
                case measure => simp [intOf]; omega
              · have HB : Hid (¬ NamesOk ns) := bad fun _ h => by
                  have := h (by omega)
                  rw [Nat.add_sub_cancel, EL.out] at this
                  unfold notAfter at this
                  rw [hq1, hq2] at this
                  cases this
                clear bad H
                go_wp2_with fail
                go_big_quiet (fail)
                go_wp2
                go_ret
                exact ⟨below_drewN' hB _, tells_no rfl HB.out⟩
            · have HB : Hid (¬ NamesOk ns) := bad fun _ h => by
                have := h (by omega)
                rw [Nat.add_sub_cancel, EL.out] at this
                unfold notAfter at this
                rw [hq1] at this
                cases this
              clear bad H
              go_wp2_with fail
              go_big_quiet (fail)
              go_wp2
              go_ret
              exact ⟨below_drewN' hB _, tells_no rfl HB.out⟩
        · have HB : Hid (¬ NamesOk ns) := bad fun h _ => q1 h.2
          clear bad H hc
          go_wp2
          go_ret
          exact ⟨hB, tells_no rfl HB.out⟩
      · have HB : Hid (¬ NamesOk ns) := bad fun h _ => q0 h.1
        clear bad H hc
        go_wp2
        go_ret
        exact ⟨hB, tells_no rfl HB.out⟩
    · have e : c = ns.length := by omega
      have HA : Hid (NamesOk ns) := fun i hi => H.out i (by omega)
      clear H hc hs
      go_wp2
      go_ret
      exact ⟨hB, tells_yes rfl HA.out⟩
end Go.Proofs.YtkpcmfgeanlcnaaDoor

/-
  What the document's calls on sizes answer: Total, Length, fitMany, Padding.
-/
namespace Go.Proofs.YtkpcmfgeanlcnaaDoor
open Go.RowKit Go.Deep

/-- The sizes together; above 65536: 65537. -/
def totI (zs : List Int) : Nat := if tot zs ≤ 65536 then tot zs else 65537

set_option maxHeartbeats 1000000 in
set_option maxRecDepth 100000 in
theorem totalI_any (v : Value) (zs : List Int) (hl : zs.length ≤ 9223372036854775807) (hz : SizesOk zs) (hz2 : ∀ i, zs.getD i 0 ≤ 9223372036854775807) (w : World) (h : Lies w v (intV zs)) :
    Calls Tryd.prog 65 #[v] w fun r w' => r = .returned (.int .i64 (totI zs : Nat)) ∧ w' = w := by
  obtain ⟨ba, cap, rfl, hcap, hc⟩ := h
  rw [intV_length] at hcap ⊢
  go_enter Tryd.func65, Tryd.ntmps65
  go_wp2
  go_loop [3, 4] (fun vt vi => ∃ c t : Nat, c ≤ zs.length ∧ vi = .int .i64 (c : Int) ∧ vt = .int .i64 (t : Int) ∧ t ≤ 65536 ∧ Hid (totTo zs c = t)) (fun _ i => zs.length - (intOf i).toNat)
  case atStart => exact ⟨0, 0, by omega, rfl, rfl, by omega, rfl⟩
  case round =>
    obtain ⟨c, t, hcl, rfl, rfl, ht, H⟩ := hrel
    by_cases hlt : c < zs.length
    · obtain ⟨b, off, rfl, hcell⟩ := hc c _ (intV_at hlt)
      have hzc := hz c hlt
      have hzd := hz2 c
      obtain ⟨z, ez⟩ : ∃ z : Nat, zs.getD c 0 = (z : Int) := ⟨(zs.getD c 0).toNat, by omega⟩
      have H2 : Hid (totTo zs (c + 1) = t + z) := by
        show _ = _
        rw [totTo_succ, ez, H.out]; simp
      have H3 : Hid (totTo zs (c + 1) ≤ tot zs) := totTo_le zs (by omega)
      rw [ez] at hcell hzd
      clear ez hzc hc hz hz2 H
      by_cases hbig : 65536 < z
      · have HT : Hid (totI zs = 65537) := by
          show _ = _
          have := H2.out; have := H3.out
          unfold totI; rw [if_neg (by omega)]
        clear H2 H3
        go_wp2
        go_ret
        exact ⟨by rw [HT.out]; rfl, rfl⟩
      · by_cases hbig2 : 65536 < t + z
        · have HT : Hid (totI zs = 65537) := by
            show _ = _
            have := H2.out; have := H3.out
            unfold totI; rw [if_neg (by omega)]
          clear H2 H3
          go_wp2
          go_ret
          exact ⟨by rw [HT.out]; rfl, rfl⟩
        · clear H3
          go_wp2
          go_round
          case rel => exact ⟨c + 1, t + z, by omega, by go_num, by go_num, by omega, H2⟩
          case measure => simp [intOf]; omega
    · have e : c = zs.length := by omega
      have HT : Hid (totI zs = t) := by
        show _ = _
        have := H.out
        rw [e, totTo_all] at this
        unfold totI; rw [if_pos (by omega), this]
      clear H hc hz hz2
      go_wp2
      go_ret
      exact ⟨ret_i64 (by rw [HT.out]), rfl⟩

theorem lenC_eq {k : Nat} (hk : 1 ≤ k) (t : Nat) : lenC k t = if t / k * k < t then t / k + 1 else t / k := by
  unfold lenC
  have h1 := Nat.div_add_mod t k
  have h2 := Nat.mod_lt t (show 0 < k by omega)
  rw [Nat.mul_comm] at h1
  split
  · rename_i h
    rw [Nat.div_eq_of_lt_le]
    · rw [Nat.add_mul]; omega
    · rw [Nat.add_mul, Nat.add_mul]; omega
  · rename_i h
    rw [Nat.div_eq_of_lt_le]
    · omega
    · rw [Nat.add_mul]; omega

set_option maxHeartbeats 1000000 in
set_option maxRecDepth 100000 in
theorem lengthI_any (K : Int) (k : Nat) (hK : K = k) (hk : 1 ≤ k) (hk2 : k ≤ 255) (v : Value) (zs : List Int) (hl : zs.length ≤ 9223372036854775807) (hz : SizesOk zs) (hz2 : ∀ i, zs.getD i 0 ≤ 9223372036854775807) (ht : tot zs ≤ 65536) (w : World) (h : Lies w v (intV zs)) :
    Calls Tryd.prog 43 #[.int .i64 K, v] w fun r w' => r = .returned (.int .i64 (lenC k (tot zs) : Nat)) ∧ w' = w := by
  subst hK
  have K1 := totalI_any v zs hl hz hz2 w h
  have HL : Hid _ := lenC_eq hk (tot zs)
  have e : totI zs = tot zs := by unfold totI; rw [if_pos ht]
  rw [e] at K1
  obtain ⟨t, et⟩ : ∃ t, tot zs = t := ⟨_, rfl⟩
  rw [et] at K1 HL ht ⊢
  clear et e
  obtain ⟨q, eq⟩ : ∃ q, t / k = q := ⟨_, rfl⟩
  have hq : q ≤ t := eq ▸ Nat.div_le_self _ _
  have hqk : q * k ≤ t := eq ▸ Nat.div_mul_le_self _ _
  rw [eq] at HL
  have W1 : Hid (wrap64 ((t : Int) / (k : Int)) = (q : Int)) := by
    show wrap64 ((t : Int) / (k : Int)) = (q : Int)
    rw [← Int.natCast_ediv, eq]; exact in64 _ (by omega)
  have W2 : Hid (wrap64 ((q : Int) * (k : Int)) = ((q * k : Nat) : Int)) := by
    show wrap64 ((q : Int) * (k : Int)) = ((q * k : Nat) : Int)
    rw [← Int.natCast_mul]; exact in64 _ (by omega)
  have W3 : Hid (wrap64 ((q : Int) + 1) = ((q + 1 : Nat) : Int)) := by
    show wrap64 ((q : Int) + 1) = ((q + 1 : Nat) : Int)
    rw [in64 _ (by omega)]; rfl
  clear hq hqk eq ht
  go_enter Tryd.func43, Tryd.ntmps43
  go_wp2_with (first | (go_at_call 65; refine K1.mono ?_; rintro r w' ⟨rfl, hw'⟩; obtain rfl := hw'.symm))
  · have hx : wrap64 (wrap64 ((t : Int) / (k : Int)) * (k : Int)) < (t : Int) := by assumption
    rw [W1.out, W2.out] at hx
    go_ret
    refine ⟨ret_i64 ?_, rfl⟩
    rw [HL.out, if_pos (by omega), W1.out, W3.out]
  · have hx : (t : Int) ≤ wrap64 (wrap64 ((t : Int) / (k : Int)) * (k : Int)) := by assumption
    rw [W1.out, W2.out] at hx
    go_ret
    refine ⟨ret_i64 ?_, rfl⟩
    rw [HL.out, if_neg (by omega), W1.out]

set_option maxHeartbeats 2000000 in
set_option maxRecDepth 100000 in
theorem fitMany_any (vN vS : Value) (ns : List (List UInt8)) (zs : List Int) (hn : ns.length ≤ 9223372036854775807) (hzl : zs.length ≤ 9223372036854775807) (hok : ListOk ns zs) (hz2 : ∀ i, zs.getD i 0 ≤ 9223372036854775807) (w : World) (h1 : Lies w vN (nameV ns)) (h2 : Lies w vS (intV zs)) :
    Calls Tryd.prog 36 #[vN, vS] w fun r w' => w' = w ∧ Tells r (FewOk ns zs) := by
  have K1 := totalI_any vS zs hzl hok.2.2 hz2 w h2
  have HK : Hid (ListOk ns zs) := hok
  obtain ⟨ba, cap, rfl, hcap, hc⟩ := h1
  rw [nameV_length] at hcap ⊢
  clear hok h2 hz2
  go_enter Tryd.func36, Tryd.ntmps36
  go_wp2
  go_loop [5, 6] (fun vn vi => ∃ (c : Nat) (x : Int), c ≤ ns.length ∧ vi = .int .i64 (c : Int) ∧ vn = .int .i64 x ∧ Hid (ns.length ≤ 1000 → x = (manNto ns c : Nat))) (fun _ i => ns.length - (intOf i).toNat)
  case atStart => exact ⟨0, 4, by omega, rfl, rfl, fun _ => by simp [manNto]⟩
  case round =>
    obtain ⟨c, x, hcl, rfl, rfl, H⟩ := hrel
    by_cases hlt : c < ns.length
    · obtain ⟨b, off, rfl, hcell⟩ := hc c _ (nameV_at hlt)
      have hsc : (ns.getD c []).length ≤ 255 := (HK.out.2.1 c hlt).1.2
      have H2 : Hid _ := manNto_succ ns c
      have H3 : Hid (ns.length ≤ 1000 → manNto ns c ≤ 1000000) := fun hh => by have := manNto_le ns HK.out.2.1 c (by omega); omega
      obtain ⟨s, es⟩ : ∃ s, ns.getD c [] = s := ⟨_, rfl⟩
      rw [es] at hcell hsc H2
      have hsz := ba_size s
      clear es hc
      go_wp2
      go_round
      case rel =>
        refine ⟨c + 1, _, by omega, by go_num, rfl, fun hh => ?_⟩
        have e1 := H.out hh
        have e2 := H3.out hh
        rw [H2.out, e1, in64 ((manNto ns c : Int) + 6) (by omega), in64 _ (by omega)]
        omega
      case measure => simp [intOf]; omega
    · obtain rfl : c = ns.length := by omega
      clear hc
      by_cases q1 : ns.length ≤ 1000
      · have ex := H.out q1
        rw [manNto_all] at ex
        have hmb : manN ns ≤ 1000000 := by have := manNto_le ns HK.out.2.1 ns.length (by omega); rw [manNto_all] at this; omega
        obtain ⟨m, em⟩ : ∃ m, manN ns = m := ⟨_, rfl⟩
        have EM : Hid (manN ns = m) := em
        rw [em] at ex hmb
        subst ex
        clear em H
        by_cases q2 : tot zs ≤ 65536
        · have et : totI zs = tot zs := by unfold totI; rw [if_pos q2]
          rw [et] at K1
          obtain ⟨t, ett⟩ : ∃ t, tot zs = t := ⟨_, rfl⟩
          have ET : Hid (tot zs = t) := ett
          rw [ett] at K1 q2
          clear et ett
          go_wp2_with (first | (go_at_call 65; refine K1.mono ?_; rintro r w' ⟨rfl, hw'⟩; obtain rfl := hw'.symm))
          go_ret
          by_cases q3 : m ≤ 300000
          · exact ⟨rfl, tells_yes (ret_bool' (by simp; omega)) ⟨q1, by rw [ET.out]; exact q2, by rw [EM.out]; exact q3⟩⟩
          · exact ⟨rfl, tells_no (ret_bool' (by simp; omega)) fun h => q3 (by have := h.2.2; rw [EM.out] at this; exact this)⟩
        · have et : totI zs = 65537 := by unfold totI; rw [if_neg q2]
          have Q2 : Hid (¬ tot zs ≤ 65536) := q2
          rw [et] at K1
          clear et q2
          go_wp2_with (first | (go_at_call 65; refine K1.mono ?_; rintro r w' ⟨rfl, hw'⟩; obtain rfl := hw'.symm))
          go_ret
          exact ⟨rfl, tells_no rfl fun h => Q2.out h.2.1⟩
      · clear H
        go_wp2
        go_ret
        exact ⟨rfl, tells_no rfl fun h => q1 h.1⟩
end Go.Proofs.YtkpcmfgeanlcnaaDoor

/-
  What the program's calls on a list of names and sizes answer.
-/
import Derived.Test.YtkpcmfgeanlcnaaDoorWrB
namespace Go.Proofs.YtkpcmfgeanlcnaaDoor
open Go.RowKit Go.Deep

theorem ba_size (s : List UInt8) : (ByteArray.mk s.toArray).size = s.length := by simp [ByteArray.size]

set_option maxHeartbeats 400000 in
set_option maxRecDepth 100000 in
theorem nameFits_yes (s : List UInt8) (h : 1 ≤ s.length ∧ s.length ≤ 255) (w : World) :
    Calls Tryd.prog 56 #[.string ⟨s.toArray⟩] w fun r w' => r = .returned (.bool true) ∧ w' = w := by
  have hsz := ba_size s
  go_enter Tryd.func56, Tryd.ntmps56
  go_wp2
  go_ret
  exact ⟨ret_bool' (by simp; omega), rfl⟩
set_option maxHeartbeats 400000 in
set_option maxRecDepth 100000 in
theorem nameFits_no (s : List UInt8) (h : ¬ (1 ≤ s.length ∧ s.length ≤ 255)) (hs : s.length ≤ 9223372036854775807) (w : World) :
    Calls Tryd.prog 56 #[.string ⟨s.toArray⟩] w fun r w' => r = .returned (.bool false) ∧ w' = w := by
  have hsz := ba_size s
  rcases Nat.eq_zero_or_pos s.length with h0 | h0
  · rw [h0] at hsz
    clear h h0
    go_enter Tryd.func56, Tryd.ntmps56
    go_wp2
    go_ret
    exact ⟨rfl, rfl⟩
  · have h1 : 255 < s.length := by omega
    clear h
    go_enter Tryd.func56, Tryd.ntmps56
    go_wp2
    go_ret
    exact ⟨ret_bool' (by simp; omega), rfl⟩

/-- Up to a place all names and sizes may be. -/
def ListedTo (ns : List (List UInt8)) (zs : List Int) (c : Nat) : Prop := ∀ i, i < c → ((1 ≤ (ns.getD i []).length ∧ (ns.getD i []).length ≤ 255) ∧ (0 < i → notAfter (ns.getD i []) (ns.getD (i - 1) []) = false)) ∧ 0 ≤ zs.getD i 0
theorem ListedTo.next {ns : List (List UInt8)} {zs : List Int} {c : Nat} (h : ListedTo ns zs c) (h1 : 1 ≤ (ns.getD c []).length ∧ (ns.getD c []).length ≤ 255) (h2 : 0 < c → notAfter (ns.getD c []) (ns.getD (c - 1) []) = false) (h3 : 0 ≤ zs.getD c 0) : ListedTo ns zs (c + 1) := by
  intro i hi
  rcases Nat.lt_or_ge i c with x | x
  · exact h i x
  · obtain rfl : i = c := by omega
    exact ⟨⟨h1, h2⟩, h3⟩
/-- Names and sizes that may be. -/
def ListOk (ns : List (List UInt8)) (zs : List Int) : Prop := ns.length = zs.length ∧ NamesOk ns ∧ SizesOk zs
theorem ListedTo.all {ns : List (List UInt8)} {zs : List Int} (hl : ns.length = zs.length) (h : ListedTo ns zs ns.length) : ListOk ns zs :=
  ⟨hl, fun i hi => (h i hi).1, fun i hi => (h i (by omega)).2⟩

set_option maxHeartbeats 2000000 in
set_option maxRecDepth 100000 in
theorem listFits_any (vN vS : Value) (ns : List (List UInt8)) (zs : List Int) (hn : ns.length ≤ 9223372036854775807) (hs : ∀ n ∈ ns, n.length ≤ 9223372036854775807) (w : World) (h1 : Lies w vN (nameV ns)) (h2 : Lies w vS (intV zs)) :
    Calls Tryd.prog 74 #[vN, vS] w fun r w' => w' = w ∧ Tells r (ListOk ns zs) := by
  obtain ⟨ba, cap, rfl, hcap, hc⟩ := h1
  obtain ⟨bz, capz, rfl, hcapz, hcz⟩ := h2
  rw [nameV_length] at hcap ⊢
  rw [intV_length] at hcapz ⊢
  by_cases hlen : ns.length = zs.length
  · have hle2 : (zs.length : Int) = (ns.length : Int) := by omega
    have HL : Hid (ns.length = zs.length) := hlen
    have hzs : ∀ c, c < ns.length → c < zs.length := fun c hc => by omega
    rw [← hlen] at hcapz ⊢
    clear hlen hle2
    go_enter Tryd.func74, Tryd.ntmps74
    go_wp2
    go_loop [5, 6, 14] (fun _ _ vi => ∃ c : Nat, c ≤ ns.length ∧ vi = .int .i64 (c : Int) ∧ Hid (ListedTo ns zs c)) (fun _ _ i => ns.length - (intOf i).toNat)
    case atStart => exact ⟨0, by omega, rfl, fun i hi => by omega⟩
    case round =>
      obtain ⟨c, hcl, rfl, H⟩ := hrel
      by_cases hlt : c < ns.length
      · obtain ⟨b, off, rfl, hcell⟩ := hc c _ (nameV_at hlt)
        obtain ⟨b2, off2, rfl, hcell2⟩ := hcz c _ (intV_at (hzs c hlt))
        have hsc : (ns.getD c []).length ≤ 9223372036854775807 := by
          rw [List.getD_eq_getElem?_getD, List.getElem?_eq_getElem hlt]
          exact hs _ (List.getElem_mem _)
        obtain ⟨s, es⟩ : ∃ s, ns.getD c [] = s := ⟨_, rfl⟩
        obtain ⟨z, ez⟩ : ∃ z, zs.getD c 0 = z := ⟨_, rfl⟩
        rw [es] at hcell hsc
        rw [ez] at hcell2
        have ES : Hid (ns.getD c [] = s) := es
        have EZ : Hid (zs.getD c 0 = z) := ez
        have hzc := hzs c hlt
        have HZC : Hid (c < zs.length) := hzc
        clear es ez hzc hcz hs hzs
        have bad : Hid ((1 ≤ s.length ∧ s.length ≤ 255) → 0 ≤ z → (0 < c → notAfter s (ns.getD (c - 1) []) = false) → False) → Hid (¬ ListOk ns zs) := by
          intro hb
          show ¬ ListOk ns zs
          rintro ⟨_, g1, g2⟩
          have g1' := g1 c hlt
          have g2' := g2 c HZC.out
          rw [ES.out] at g1'
          rw [EZ.out] at g2'
          exact hb.out g1'.1 g2' g1'.2
        by_cases q1 : 1 ≤ s.length ∧ s.length ≤ 255
        · by_cases q2 : 0 ≤ z
          · have HQ1 : Hid (1 ≤ s.length ∧ s.length ≤ 255) := q1
            have HQ2 : Hid (0 ≤ z) := q2
            clear q1
            cases c with
            | zero =>
              have HN : Hid (ListedTo ns zs (0 + 1)) := H.out.next (by rw [ES.out]; exact HQ1.out) (fun h => by omega) (by rw [EZ.out]; exact HQ2.out)
              clear bad H hc HZC
              simp only [Nat.add_zero] at hcell hcell2
              go_wp2_with (first | (go_at_call 56; refine (nameFits_yes s HQ1.out _).mono ?_; rintro r w' ⟨rfl, hw'⟩; obtain rfl := hw'.symm))
              go_round
              case rel => exact ⟨1, by omega, by go_num, HN⟩
              case measure => simp [intOf]; omega
            | succ c0 =>
              obtain ⟨b3, off3, e3, hcell3⟩ := hc c0 _ (nameV_at (by omega))
              injection e3 with e3
              injection e3 with e4 e5
              subst e4 e5
              obtain ⟨la, el⟩ : ∃ la, ns.getD c0 [] = la := ⟨_, rfl⟩
              rw [el] at hcell3
              have EL : Hid (ns.getD c0 [] = la) := el
              have hlb : (c0 : Int) < (ns.length : Int) := by omega
              have e1 : (((c0 + 1 : Nat) : Int)) - 1 = (c0 : Int) := by omega
              clear el hc
              rcases hq1 : Op.bytesLess s la with _ | _
              · rcases hq2 : (s == la) with _ | _
                · have HN : Hid (ListedTo ns zs (c0 + 1 + 1)) := H.out.next (by rw [ES.out]; exact HQ1.out) (fun h => by rw [ES.out, Nat.add_sub_cancel, EL.out]; unfold notAfter; rw [hq1, hq2]; rfl) (by rw [EZ.out]; exact HQ2.out)
                  clear bad H HZC
                  go_wp2_with (first | (go_at_call 56; refine (nameFits_yes s HQ1.out _).mono ?_; rintro r w' ⟨rfl, hw'⟩; obtain rfl := hw'.symm))
                  go_round
                  case rel => exact ⟨c0 + 1 + 1, by omega, by go_num, HN⟩
                  case measure => simp [intOf]; omega
                · have HB : Hid (¬ ListOk ns zs) := bad fun _ _ h => by
                    have := h (by omega)
                    rw [Nat.add_sub_cancel, EL.out] at this
                    unfold notAfter at this
                    rw [hq1, hq2] at this
                    cases this
                  clear bad H HZC
                  go_wp2_with (first | (go_at_call 56; refine (nameFits_yes s HQ1.out _).mono ?_; rintro r w' ⟨rfl, hw'⟩; obtain rfl := hw'.symm))
                  go_ret
                  exact ⟨rfl, tells_no rfl HB.out⟩
              · have HB : Hid (¬ ListOk ns zs) := bad fun _ _ h => by
                  have := h (by omega)
                  rw [Nat.add_sub_cancel, EL.out] at this
                  unfold notAfter at this
                  rw [hq1] at this
                  cases this
                clear bad H HZC
                go_wp2_with (first | (go_at_call 56; refine (nameFits_yes s HQ1.out _).mono ?_; rintro r w' ⟨rfl, hw'⟩; obtain rfl := hw'.symm))
                go_ret
                exact ⟨rfl, tells_no rfl HB.out⟩
          · have HB : Hid (¬ ListOk ns zs) := bad fun _ h _ => q2 h
            have HQ1 : Hid (1 ≤ s.length ∧ s.length ≤ 255) := q1
            have q2' : z < 0 := by omega
            clear bad H hc HZC q1 q2
            go_wp2_with (first | (go_at_call 56; refine (nameFits_yes s HQ1.out _).mono ?_; rintro r w' ⟨rfl, hw'⟩; obtain rfl := hw'.symm))
            go_ret
            exact ⟨rfl, tells_no rfl HB.out⟩
        · have HB : Hid (¬ ListOk ns zs) := bad fun h _ _ => q1 h
          have HQ1 : Hid (¬ (1 ≤ s.length ∧ s.length ≤ 255)) := q1
          clear bad H hc HZC q1
          go_wp2_with (first | (go_at_call 56; refine (nameFits_no s HQ1.out hsc _).mono ?_; rintro r w' ⟨rfl, hw'⟩; obtain rfl := hw'.symm))
          go_ret
          exact ⟨rfl, tells_no rfl HB.out⟩
      · have e : c = ns.length := by omega
        have HA : Hid (ListOk ns zs) := ListedTo.all HL.out (e ▸ H.out)
        clear H hc hcz hs hzs
        go_wp2
        go_ret
        exact ⟨rfl, tells_yes rfl HA.out⟩
  · have HB : Hid (¬ ListOk ns zs) := fun h => hlen h.1
    have hne : ((ns.length : Int) == (zs.length : Int)) = false := by simp; omega
    have hne2 : ((ns.length : Int) != (zs.length : Int)) = true := by simp; omega
    clear hc hcz hs hlen
    go_enter Tryd.func74, Tryd.ntmps74
    go_wp2
    go_ret
    exact ⟨rfl, tells_no rfl HB.out⟩
/-- Few and small enough. -/
def FewOk (ns : List (List UInt8)) (zs : List Int) : Prop := ns.length ≤ 1000 ∧ tot zs ≤ 65536 ∧ manN ns ≤ 300000
set_option maxHeartbeats 2000000 in
set_option maxRecDepth 100000 in
theorem contentFits_any (vN vS : Value) (ns : List (List UInt8)) (zs : List Int) (hn : ns.length ≤ 9223372036854775807) (hzl : zs.length ≤ 9223372036854775807) (hok : ListOk ns zs) (w : World) (h1 : Lies w vN (nameV ns)) (h2 : Lies w vS (intV zs)) :
    Calls Tryd.prog 61 #[vN, vS] w fun r w' => w' = w ∧ Tells r (FewOk ns zs) := by
  obtain ⟨ba, cap, rfl, hcap, hc⟩ := id h1
  rw [nameV_length] at hcap h1 ⊢
  by_cases q1 : ns.length ≤ 1000
  · have K1 := sizesFit_any vS zs hzl hok.2.2 w h2
    by_cases q2 : tot zs ≤ 65536
    · have K2 := manSize_any _ ns q1 hok.2.1 w h1
      obtain ⟨m, em⟩ : ∃ m, manN ns = m := ⟨_, rfl⟩
      have EM : Hid (manN ns = m) := em
      rw [em] at K2
      have hm : m ≤ 1000000000 := by
        have := manNto_le ns hok.2.1 ns.length (Nat.le_refl _)
        rw [manNto_all, em] at this
        omega
      have Q2 : Hid (tot zs ≤ 65536) := q2
      clear h1 h2 hc em hok q2
      go_enter Tryd.func61, Tryd.ntmps61
      go_wp2_with (first | (go_at_call 90; refine K1.mono ?_; rintro r w' ⟨hw', hb⟩; obtain rfl := hb.yes Q2.out; obtain rfl := hw'.symm) | (go_at_call 82; refine K2.mono ?_; rintro r w' ⟨rfl, hw'⟩; obtain rfl := hw'.symm))
      go_ret
      by_cases q3 : m ≤ 300000
      · exact ⟨rfl, tells_yes (ret_bool' (by simp; omega)) ⟨q1, Q2.out, by rw [EM.out]; exact q3⟩⟩
      · exact ⟨rfl, tells_no (ret_bool' (by simp; omega)) fun h => q3 (by have := h.2.2; rw [EM.out] at this; exact this)⟩
    · have Q2 : Hid (¬ tot zs ≤ 65536) := q2
      clear h1 h2 hc hok q2
      go_enter Tryd.func61, Tryd.ntmps61
      go_wp2_with (first | (go_at_call 90; refine K1.mono ?_; rintro r w' ⟨hw', hb⟩; obtain rfl := hb.no Q2.out; obtain rfl := hw'.symm))
      go_ret
      exact ⟨rfl, tells_no rfl fun h => Q2.out h.2.1⟩
  · clear h1 h2 hc
    go_enter Tryd.func61, Tryd.ntmps61
    go_wp2
    go_ret
    exact ⟨rfl, tells_no rfl fun h => q1 h.1⟩
end Go.Proofs.YtkpcmfgeanlcnaaDoor

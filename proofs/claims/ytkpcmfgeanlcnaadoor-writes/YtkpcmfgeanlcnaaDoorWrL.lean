/-
  What the document's small calls for writing answer.
-/
import Derived.Test.YtkpcmfgeanlcnaaDoorWrD
import Derived.BigQuiet
namespace Go.Proofs.YtkpcmfgeanlcnaaDoor
open Go.RowKit Go.Deep

theorem below_drewN' {B : Nat} {a w : World} (h : Below B a w) (n : Nat) : Below B a (w.drewN n) := h.trans ⟨rfl, rfl, rfl, Nat.le_refl _, fun _ _ => rfl⟩
set_option maxHeartbeats 400000 in
set_option maxRecDepth 100000 in
theorem properP_any (k n : Int) (w : World) :
    Calls Tryd.prog 64 #[.int .i64 k, .int .i64 n] w fun e w' => w' = w ∧ Tells e (PartsOk k n) := by
  by_cases h1 : 1 ≤ k
  · by_cases h2 : k ≤ n
    · have h4 : 1 ≤ n := by omega
      by_cases h3 : n ≤ 128
      · have HF : Hid (PartsOk k n) := ⟨h1, h2, h3⟩
        go_enter Tryd.func64, Tryd.ntmps64
        go_wp2
        go_ret
        exact ⟨rfl, tells_yes rfl HF.out⟩
      · have HF : Hid (¬ PartsOk k n) := fun h => h3 h.2.2
        go_enter Tryd.func64, Tryd.ntmps64
        go_wp2
        go_ret
        exact ⟨rfl, tells_no rfl HF.out⟩
    · have HF : Hid (¬ PartsOk k n) := fun h => h2 h.2.1
      go_enter Tryd.func64, Tryd.ntmps64
      go_wp2
      go_ret
      exact ⟨rfl, tells_no rfl HF.out⟩
  · have HF : Hid (¬ PartsOk k n) := fun h => h1 h.1
    go_enter Tryd.func64, Tryd.ntmps64
    go_wp2
    go_ret
    exact ⟨rfl, tells_no rfl HF.out⟩
set_option maxHeartbeats 400000 in
set_option maxRecDepth 100000 in
theorem fitParams_any (k n c : Int) (w : World) :
    Calls Tryd.prog 33 #[.int .i64 k, .int .i64 n, .int .i64 c] w fun e w' => w' = w ∧ Tells e (ParamsOk k n c) := by
  by_cases h1 : PartsOk k n
  · have H1 : Hid (PartsOk k n) := h1
    clear h1
    by_cases h2 : 1 ≤ c
    · by_cases h3 : c ≤ 65536
      · go_enter Tryd.func33, Tryd.ntmps33
        go_wp2_with (first | (go_at_call 64; refine (properP_any _ _ _).mono ?_; rintro r w' ⟨hw', hb⟩; obtain rfl := hb.yes H1.out; obtain rfl := hw'.symm))
        go_ret
        exact ⟨rfl, tells_yes rfl ⟨H1.out, h2, h3⟩⟩
      · go_enter Tryd.func33, Tryd.ntmps33
        go_wp2_with (first | (go_at_call 64; refine (properP_any _ _ _).mono ?_; rintro r w' ⟨hw', hb⟩; obtain rfl := hb.yes H1.out; obtain rfl := hw'.symm))
        go_ret
        exact ⟨rfl, tells_no (ret_bool' (by simp; omega)) fun h => by have := h.2.2; omega⟩
    · go_enter Tryd.func33, Tryd.ntmps33
      go_wp2_with (first | (go_at_call 64; refine (properP_any _ _ _).mono ?_; rintro r w' ⟨hw', hb⟩; obtain rfl := hb.yes H1.out; obtain rfl := hw'.symm))
      go_ret
      exact ⟨rfl, tells_no (ret_bool' (by simp; try omega)) fun h => by have := h.2.1; omega⟩
  · have H1 : Hid (¬ PartsOk k n) := h1
    clear h1
    go_enter Tryd.func33, Tryd.ntmps33
    go_wp2_with (first | (go_at_call 64; refine (properP_any _ _ _).mono ?_; rintro r w' ⟨hw', hb⟩; obtain rfl := hb.no H1.out; obtain rfl := hw'.symm))
    go_ret
    exact ⟨rfl, tells_no rfl fun h => H1.out h.1⟩

/-- Up to a place all names may be. -/
def NamedTo (ns : List (List UInt8)) (c : Nat) : Prop := ∀ i, i < c → (1 ≤ (ns.getD i []).length ∧ (ns.getD i []).length ≤ 255) ∧ (0 < i → notAfter (ns.getD i []) (ns.getD (i - 1) []) = false)
theorem NamedTo.next {ns : List (List UInt8)} {c : Nat} (h : NamedTo ns c) (h1 : 1 ≤ (ns.getD c []).length ∧ (ns.getD c []).length ≤ 255) (h2 : 0 < c → notAfter (ns.getD c []) (ns.getD (c - 1) []) = false) : NamedTo ns (c + 1) := by
  intro i hi
  rcases Nat.lt_or_ge i c with x | x
  · exact h i x
  · obtain rfl : i = c := by omega
    exact ⟨h1, h2⟩

set_option maxHeartbeats 2000000 in
set_option maxRecDepth 100000 in
theorem fitNames_any (vN : Value) (ns : List (List UInt8)) (hn : ns.length ≤ 9223372036854775807) (hs : ∀ n ∈ ns, n.length ≤ 9223372036854775807) (w : World) (h1 : Lies w vN (nameV ns)) :
    Calls Tryd.prog 35 #[vN] w fun r w' => Below w.heap.size w w' ∧ Tells r (NamesOk ns) := by
  obtain ⟨ba, cap, rfl, hcap, hc⟩ := h1
  rw [nameV_length] at hcap ⊢
  go_enter Tryd.func35, Tryd.ntmps35
  go_wp2
  go_loopw [3] (fun vi wr => ∃ c : Nat, c ≤ ns.length ∧ vi = .int .i64 (c : Int) ∧ Hid (NamedTo ns c) ∧ wr.heap = w.heap ∧ Below w.heap.size w wr) (fun i _ => ns.length - (intOf i).toNat)
  case atStart => exact ⟨0, by omega, rfl, fun i hi => by omega, rfl, Below.refl _ _⟩
  case round =>
    obtain ⟨c, hcl, rfl, H, hh, hB⟩ := hrel
    by_cases hlt : c < ns.length
    · obtain ⟨b, off, rfl, hcell0⟩ := hc c _ (nameV_at hlt)
      have hcell : wr.cell? ⟨b, off + c, none⟩ = some (.string ⟨(ns.getD c []).toArray⟩) := (hB.cell (p := ⟨b, off + c, none⟩) (cell_lt hcell0)).trans hcell0
      have hsc : (ns.getD c []).length ≤ 9223372036854775807 := by
        rw [List.getD_eq_getElem?_getD, List.getElem?_eq_getElem hlt]
        exact hs _ (List.getElem_mem _)
      obtain ⟨s, es⟩ : ∃ s, ns.getD c [] = s := ⟨_, rfl⟩
      rw [es] at hcell hsc
      have ES : Hid (ns.getD c [] = s) := es
      have hsz := ba_size s
      have HH : Hid (wr.heap = w.heap) := hh
      clear es hs hcell0 hh
      have bad : Hid ((1 ≤ s.length ∧ s.length ≤ 255) → (0 < c → notAfter s (ns.getD (c - 1) []) = false) → False) → Hid (¬ NamesOk ns) := by
        intro hb
        show ¬ NamesOk ns
        intro g1
        have g1' := g1 c hlt
        rw [ES.out] at g1'
        exact hb.out g1'.1 g1'.2
      by_cases q0 : 1 ≤ s.length
      · by_cases q1 : s.length ≤ 255
        · have HQ : Hid (1 ≤ s.length ∧ s.length ≤ 255) := ⟨q0, q1⟩
          cases c with
          | zero =>
            have HN : Hid (NamedTo ns (0 + 1)) := H.out.next (by rw [ES.out]; exact HQ.out) (fun h => by omega)
            simp only [Nat.add_zero] at hcell
            clear bad H hc
            go_wp2_with fail
            go_big_quiet (fail)
            go_wp2
            go_roundw
            case rel => exact ⟨1, by omega, by go_num, HN, HH.out, below_drewN' hB _⟩
            case measure => simp [intOf]; omega
          | succ c0 =>
            obtain ⟨b3, off3, e3, hcell30⟩ := hc c0 _ (nameV_at (by omega))
            injection e3 with e3
            injection e3 with e4 e5
            subst e4 e5
            have hcell3 : wr.cell? ⟨b, off + c0, none⟩ = some (.string ⟨(ns.getD c0 []).toArray⟩) := (hB.cell (p := ⟨b, off + c0, none⟩) (cell_lt hcell30)).trans hcell30
            obtain ⟨la, el⟩ : ∃ la, ns.getD c0 [] = la := ⟨_, rfl⟩
            rw [el] at hcell3
            have EL : Hid (ns.getD c0 [] = la) := el
            have hlb : (c0 : Int) < (ns.length : Int) := by omega
            clear el hc hcell30
            rcases hq1 : Op.bytesLess s la with _ | _
            · rcases hq2 : (s == la) with _ | _
              · have HN : Hid (NamedTo ns (c0 + 1 + 1)) := H.out.next (by rw [ES.out]; exact HQ.out) (fun h => by rw [ES.out, Nat.add_sub_cancel, EL.out]; unfold notAfter; rw [hq1, hq2]; rfl)
                clear bad H
                go_wp2_with fail
                go_big_quiet (fail)
                go_wp2
                go_roundw
                case rel => exact ⟨c0 + 1 + 1, by omega, by go_num, HN, HH.out, below_drewN' hB _⟩
                case measure => simp [intOf]; omega
              · have HB : Hid (¬ NamesOk ns) := bad fun _ h => by
                  have := h (by omega)
                  rw [Nat.add_sub_cancel, EL.out] at this
                  unfold notAfter at this
                  rw [hq1, hq2] at this
                  cases this
                clear bad H
                go_wp2_with fail
                go_big_quiet (fail)
                go_wp2
                go_ret
                exact ⟨below_drewN' hB _, tells_no rfl HB.out⟩
            · have HB : Hid (¬ NamesOk ns) := bad fun _ h => by
                have := h (by omega)
                rw [Nat.add_sub_cancel, EL.out] at this
                unfold notAfter at this
                rw [hq1] at this
                cases this
              clear bad H
              go_wp2_with fail
              go_big_quiet (fail)
              go_wp2
              go_ret
              exact ⟨below_drewN' hB _, tells_no rfl HB.out⟩
        · have HB : Hid (¬ NamesOk ns) := bad fun h _ => q1 h.2
          clear bad H hc
          go_wp2
          go_ret
          exact ⟨hB, tells_no rfl HB.out⟩
      · have HB : Hid (¬ NamesOk ns) := bad fun h _ => q0 h.1
        clear bad H hc
        go_wp2
        go_ret
        exact ⟨hB, tells_no rfl HB.out⟩
    · have e : c = ns.length := by omega
      have HA : Hid (NamesOk ns) := fun i hi => H.out i (by omega)
      clear H hc hs
      go_wp2
      go_ret
      exact ⟨hB, tells_yes rfl HA.out⟩
end Go.Proofs.YtkpcmfgeanlcnaaDoor

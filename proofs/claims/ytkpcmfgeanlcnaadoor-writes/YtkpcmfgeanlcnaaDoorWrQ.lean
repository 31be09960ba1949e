/-
  What the document's Write of a shard answers.
-/
import Derived.Test.YtkpcmfgeanlcnaaDoorWrP
import Derived.Test.YtkpcmfgeanlcnaaDoorWrE
namespace Go.Proofs.YtkpcmfgeanlcnaaDoor
open Go.RowKit Go.Deep

section
variable (K N I C : Int) (ns : List (List UInt8)) (zs : List Int) (col : List UInt8) (vN vS vC : Value) (w : World) (h : (Sh.mk K N I C ns zs col).In w vN vS vC)

set_option maxHeartbeats 2000000 in
set_option maxRecDepth 100000 in
theorem rwrite_params (hF : ¬ (ParamsOk K N C ∧ 0 ≤ I ∧ I < N)) :
    Calls Tryd.prog 26 #[.agg #[.int .i64 K, .int .i64 N, .int .i64 I, .int .i64 C, vN, vS, vC]] w fun r w' => r = .returned (.tuple #[.slice none 0 0, .int .i64 1]) ∧ Below w.heap.size w w' := by
  have hB1 := (Below.refl w.heap.size w).alloc (Nat.le_refl _) (.cells #[.int .i64 K, .int .i64 N, .int .i64 I, .int .i64 C, vN, vS, vC] 36)
  by_cases h1 : ParamsOk K N C
  · have H1 : Hid (ParamsOk K N C) := h1
    by_cases h2 : 0 ≤ I
    · have h3 : N ≤ I := by
        rcases Int.lt_or_le I N with x | x
        · exact absurd ⟨h1, h2, x⟩ hF
        · exact x
      clear h1 hF
      go_enter Tryd.func26, Tryd.ntmps26
      go_wp2_with (first | (go_at_call 33; refine (fitParams_any _ _ _ _).mono ?_; rintro r w' ⟨hw', hb⟩; obtain rfl := hb.yes H1.out; obtain rfl := hw'.symm; clear hb))
      go_ret2
      exact ⟨rfl, hB1⟩
    · clear h1 hF
      go_enter Tryd.func26, Tryd.ntmps26
      go_wp2_with (first | (go_at_call 33; refine (fitParams_any _ _ _ _).mono ?_; rintro r w' ⟨hw', hb⟩; obtain rfl := hb.yes H1.out; obtain rfl := hw'.symm; clear hb))
      go_ret2
      exact ⟨rfl, hB1⟩
  · have H1 : Hid (¬ ParamsOk K N C) := h1
    clear h1 hF
    go_enter Tryd.func26, Tryd.ntmps26
    go_wp2_with (first | (go_at_call 33; refine (fitParams_any _ _ _ _).mono ?_; rintro r w' ⟨hw', hb⟩; obtain rfl := hb.no H1.out; obtain rfl := hw'.symm; clear hb))
    go_ret2
    exact ⟨rfl, hB1⟩

variable (H1 : Hid (ParamsOk K N C)) (i0 : 0 ≤ I) (iN : I < N)

set_option maxHeartbeats 4000000 in
set_option maxRecDepth 100000 in
include h H1 i0 iN in
theorem rwrite_names (H2 : Hid (¬ ListOk ns zs)) :
    Calls Tryd.prog 26 #[.agg #[.int .i64 K, .int .i64 N, .int .i64 I, .int .i64 C, vN, vS, vC]] w fun r w' => r = .returned (.tuple #[.slice none 0 0, .int .i64 2]) ∧ Below w.heap.size w w' := by
  have hnl : ns.length ≤ 9223372036854775807 := h.nl
  have hzl : zs.length ≤ 9223372036854775807 := h.zl
  have hml : ∀ n ∈ ns, n.length ≤ 9223372036854775807 := h.ml
  obtain ⟨bn, capn, rfl, hcapn, _⟩ := id h.names
  obtain ⟨bz, capz, rfl, hcapz, hcz0⟩ := id h.sizes
  obtain ⟨bc, capc, rfl, hcapc, _⟩ := id h.col
  simp only [nameV_length, intV_length, u8V_length] at h hcapn hcapz hcapc ⊢
  have hI := h.below ((Below.refl w.heap.size w).alloc (Nat.le_refl _) (.cells #[.int .i64 K, .int .i64 N, .int .i64 I, .int .i64 C, .slice bn ns.length capn, .slice bz zs.length capz, .slice bc col.length capc] 36))
  have g1 := hI.names
  simp only at g1
  by_cases hN : NamesOk ns
  · have HN : Hid (NamesOk ns) := hN
    by_cases hlen : ns.length = zs.length
    · have hneg : Hid (¬ SizesOk zs) := fun x => H2.out ⟨hlen, hN, x⟩
      have hLE : Hid (ns.length = zs.length) := hlen
      have hle3 : ((ns.length : Int) == (zs.length : Int)) = true := by simp; omega
      have hle4 : ((ns.length : Int) != (zs.length : Int)) = false := by simp; omega
      clear hN hlen hcz0
      go_enter Tryd.func26, Tryd.ntmps26
      go_wp2_with (first | (go_at_call 33; refine (fitParams_any _ _ _ _).mono ?_; rintro r w' ⟨hw', hb⟩; obtain rfl := hb.yes H1.out; obtain rfl := hw'.symm; clear hb) | (go_at_call 35; refine (fitNames_any _ ns hnl hml _ (by exact g1)).mono ?_; rintro r w1 ⟨hB, hb⟩; obtain rfl := hb.yes HN.out; obtain ⟨⟨c0, c1, c2, c3, c4, c5, c6⟩, hB1⟩ := box7 hB; clear hb))
      have f2 := (h.below hB1).sizes
      obtain ⟨bz', capz', ez, _, hcz⟩ := id f2
      simp only [intV_length] at ez hcz
      injection ez with ez1 ez2 ez3
      subst ez1
      clear H1 H2 h hI hle3 hle4 c0 c1 c2 c3 c6
      go_loop [5] (fun vi => ∃ c : Nat, c ≤ zs.length ∧ vi = .int .i64 (c : Int) ∧ Hid (∀ j, j < c → 0 ≤ zs.getD j 0)) (fun i => zs.length - (intOf i).toNat)
      case atStart => exact ⟨0, by omega, rfl, fun j hj => by omega⟩
      case round =>
        obtain ⟨c, hcl2, rfl, HH⟩ := hrel
        by_cases hlt : c < zs.length
        · obtain ⟨b, off, rfl, hcell⟩ := hcz c _ (intV_at hlt)
          obtain ⟨z, e2⟩ : ∃ z, zs.getD c 0 = z := ⟨_, rfl⟩
          rw [e2] at hcell
          have EZ : Hid (zs.getD c 0 = z) := e2
          clear e2 hcz
          by_cases q : z < 0
          · clear HH hneg
            go_wp2
            go_ret2
            exact ⟨rfl, hB1⟩
          · have HN2 : Hid (∀ j, j < c + 1 → 0 ≤ zs.getD j 0) := fun j hj => by
              rcases Nat.lt_or_ge j c with x | x
              · exact HH.out j x
              · obtain rfl : j = c := by omega
                rw [EZ.out]; omega
            clear HH hneg
            go_wp2
            go_round
            case rel => exact ⟨c + 1, by omega, by go_num, HN2⟩
            case measure => simp [intOf]; omega
        · exact absurd (fun j hj => HH.out j (by omega)) hneg.out
    · have hle3 : ((ns.length : Int) == (zs.length : Int)) = false := by simp; omega
      have hle4 : ((ns.length : Int) != (zs.length : Int)) = true := by simp; omega
      clear hN hlen hcz0
      go_enter Tryd.func26, Tryd.ntmps26
      go_wp2_with (first | (go_at_call 33; refine (fitParams_any _ _ _ _).mono ?_; rintro r w' ⟨hw', hb⟩; obtain rfl := hb.yes H1.out; obtain rfl := hw'.symm; clear hb) | (go_at_call 35; refine (fitNames_any _ ns hnl hml _ (by exact g1)).mono ?_; rintro r w1 ⟨hB, hb⟩; obtain rfl := hb.yes HN.out; obtain ⟨⟨c0, c1, c2, c3, c4, c5, c6⟩, hB1⟩ := box7 hB; clear hb))
      go_ret2
      exact ⟨rfl, hB1⟩
  · have HN : Hid (¬ NamesOk ns) := hN
    clear hN hcz0
    go_enter Tryd.func26, Tryd.ntmps26
    go_wp2_with (first | (go_at_call 33; refine (fitParams_any _ _ _ _).mono ?_; rintro r w' ⟨hw', hb⟩; obtain rfl := hb.yes H1.out; obtain rfl := hw'.symm; clear hb) | (go_at_call 35; refine (fitNames_any _ ns hnl hml _ (by exact g1)).mono ?_; rintro r w1 ⟨hB, hb⟩; obtain rfl := hb.no HN.out; obtain ⟨⟨c0, c1, c2, c3, c4, c5, c6⟩, hB1⟩ := box7 hB; clear hb))
    go_ret2
    exact ⟨rfl, hB1⟩
end
end Go.Proofs.YtkpcmfgeanlcnaaDoor

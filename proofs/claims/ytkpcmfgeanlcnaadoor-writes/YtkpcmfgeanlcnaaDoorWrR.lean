/-
  What the document's Write of a shard answers where its names and sizes may be.
-/
import Derived.Test.YtkpcmfgeanlcnaaDoorWrQ
import Derived.Test.YtkpcmfgeanlcnaaDoorWrK
namespace Go.Proofs.YtkpcmfgeanlcnaaDoor
open Go.RowKit Go.Deep

/-- What is answered of a shard whose numbers, names and sizes may be. -/
def RW (s : Sh) (w : World) (r : Ending) (w' : World) : Prop := Below w.heap.size w w' ∧
  ((s.err ≠ 0 ∧ r = .returned (.tuple #[.slice none 0 0, .int .i64 (s.err : Nat)])) ∨ (s.err = 0 ∧ ∃ v, r = .returned (.tuple #[v, .int .i64 0]) ∧ OwnB w.heap.size w' v (wrB s)))

set_option maxHeartbeats 8000000 in
set_option maxRecDepth 100000 in
theorem rwrite_rest (k n i c : Nat) (hk1 : 1 ≤ k) (hk2 : k ≤ n) (hn2 : n ≤ 128) (hi2 : i < n) (hc1 : 1 ≤ c) (hc2 : c ≤ 65536) (ns : List (List UInt8)) (zs : List Int) (col : List UInt8) (vN vS vC : Value) (w : World) (h : (Sh.mk k n i c ns zs col).In w vN vS vC) (H2 : Hid (ListOk ns zs)) (hz2 : ∀ i, zs.getD i 0 ≤ 9223372036854775807) :
    Calls Tryd.prog 26 #[.agg #[.int .i64 (k : Int), .int .i64 (n : Int), .int .i64 (i : Int), .int .i64 (c : Int), vN, vS, vC]] w fun r w' => RW (Sh.mk k n i c ns zs col) w r w' := by
  have H1 : Hid (ParamsOk k n c) := ⟨⟨by omega, by omega, by omega⟩, by omega, by omega⟩
  have hfine : Hid (Sh.Fine (Sh.mk k n i c ns zs col)) := (Sh.fine_iff _).2 ⟨H1.out, by simp only; omega, by simp only; omega⟩
  have hlisted : Hid (Sh.Listed (Sh.mk k n i c ns zs col)) := (Sh.listed_iff _).2 H2.out
  have hnl : ns.length ≤ 9223372036854775807 := h.nl
  have hzl : zs.length ≤ 9223372036854775807 := h.zl
  have hml : ∀ n ∈ ns, n.length ≤ 9223372036854775807 := h.ml
  have hcl0 : col.length ≤ 9223372036854775807 := h.cl
  obtain ⟨bn, capn, rfl, hcapn, _⟩ := id h.names
  obtain ⟨bz, capz, rfl, hcapz, hcz0⟩ := id h.sizes
  obtain ⟨bc, capc, rfl, hcapc, _⟩ := id h.col
  simp only [nameV_length, intV_length, u8V_length] at h hcapn hcapz hcapc ⊢
  have hI := h.below ((Below.refl w.heap.size w).alloc (Nat.le_refl _) (.cells #[.int .i64 (k : Int), .int .i64 (n : Int), .int .i64 (i : Int), .int .i64 (c : Int), .slice bn ns.length capn, .slice bz zs.length capz, .slice bc col.length capc] 36))
  have g1 := hI.names
  simp only at g1
  have HN : Hid (NamesOk ns) := H2.out.2.1
  have hLE : Hid (ns.length = zs.length) := H2.out.1
  have hle3 : ((ns.length : Int) == (zs.length : Int)) = true := by have := hLE.out; simp; omega
  have hle4 : ((ns.length : Int) != (zs.length : Int)) = false := by have := hLE.out; simp; omega
  have i0 : (0 : Int) ≤ (i : Int) := by omega
  have iN : (i : Int) < (n : Int) := by omega
  clear hcz0
  go_enter Tryd.func26, Tryd.ntmps26
  go_wp2_with (first | (go_at_call 33; refine (fitParams_any _ _ _ _).mono ?_; rintro r w' ⟨hw', hb⟩; obtain rfl := hb.yes H1.out; obtain rfl := hw'.symm; clear hb) | (go_at_call 35; refine (fitNames_any _ ns hnl hml _ (by exact g1)).mono ?_; rintro r w1 ⟨hB, hb⟩; obtain rfl := hb.yes HN.out; obtain ⟨⟨c0, c1, c2, c3, c4, c5, c6⟩, hB1⟩ := box7 hB; clear hb))
  have f1 := (h.below hB1).names
  have f2 := (h.below hB1).sizes
  have f3 := (h.below hB1).col
  simp only at f1 f2 f3
  obtain ⟨bz', capz', ez, _, hcz⟩ := id f2
  simp only [intV_length] at ez hcz
  injection ez with ez1 ez2 ez3
  subst ez1 ez3
  clear h hI hle3 hle4 hB g1 H1
  go_loop [5] (fun vi => ∃ c : Nat, c ≤ zs.length ∧ vi = .int .i64 (c : Int)) (fun i => zs.length - (intOf i).toNat)
  case atStart => exact ⟨0, by omega, rfl⟩
  case round =>
    obtain ⟨j, hcl2, rfl⟩ := hrel
    by_cases hlt : j < zs.length
    · obtain ⟨b, off, rfl, hcell⟩ := hcz j _ (intV_at hlt)
      have q := H2.out.2.2 j hlt
      obtain ⟨z, e2⟩ : ∃ z, zs.getD j 0 = z := ⟨_, rfl⟩
      rw [e2] at hcell q
      clear e2 hcz hz2
      go_wp2
      go_round
      case rel => exact ⟨j + 1, by omega, by go_num⟩
      case measure => simp [intOf]; omega
    · obtain rfl : j = zs.length := by omega
      clear hcz
      by_cases h3 : FewOk ns zs
      · have H3 : Hid (FewOk ns zs) := h3
        have ht : tot zs ≤ 65536 := h3.2.1
        have hnb : ns.length ≤ 1000 := h3.1
        have K1 := fun q => lengthI_any (k : Int) k rfl hk1 (by omega) _ zs hzl H2.out.2.2 hz2 ht (w1.drewN q) (f2.drewN q)
        have hLr := lenC_le hk1 (tot zs)
        have HLong : Hid (Sh.Long (Sh.mk k n i c ns zs col) ↔ col.length = lenC k (tot zs)) := by
          show _ ↔ _
          simp [Sh.Long]
        have HBad : Hid (Sh.Bad (Sh.mk k n i c ns zs col) ↔ PadBad k i (tot zs) col) := by
          show _ ↔ _
          unfold Sh.Bad PadBad
          simp only [Int.toNat_natCast, Int.ofNat_lt]
        clear h3
        by_cases q1 : col.length = lenC k (tot zs)
        · have hcl : col.length ≤ 65536 := by omega
          have HQ1 : Hid (col.length = lenC k (tot zs)) := q1
          have K1' : ∀ q, Calls Tryd.prog 43 #[.int .i64 (k : Int), .slice bz zs.length capz] (w1.drewN q) fun r w' => r = .returned (.int .i64 (col.length : Int)) ∧ w' = w1.drewN q := fun q => by rw [q1]; exact K1 q
          clear K1 q1 hLr
          by_cases q2 : PadBad k i (tot zs) col
          · have HE : Hid (Sh.err (Sh.mk k n i c ns zs col) = 8) := by
              show _ = _
              unfold Sh.err
              rw [if_neg (show ¬ ¬ _ from fun x => x hfine.out), if_neg (show ¬ ¬ _ from fun x => x hlisted.out), if_neg (show ¬ ¬ _ from fun x => x ((Sh.few_iff _).2 H3.out)), if_neg (show ¬ ¬ _ from fun x => x (HLong.out.2 HQ1.out)), if_pos (HBad.out.2 q2)]
            have HP : Hid (PadBad k i (tot zs) col) := q2
            clear q2
            go_wp2_with (first | (go_at_call 36; refine (fitMany_any _ _ ns zs hnl hzl H2.out hz2 _ (by exact f1) (by exact f2)).mono ?_; rintro r w' ⟨hw', hb⟩; obtain rfl := hb.yes H3.out; obtain rfl := hw'.symm; clear hb))
            go_big_quiet (first | (go_at_call 43; exact (K1' _).mono (fun _ _ h => ⟨h.1, _, h.2⟩)))
            go_wp2_with (first | (go_at_call 49; refine (padding_any _ _ k i rfl rfl hk1 (by omega) (by omega) _ _ zs hzl H2.out.2.2 hz2 ht col hcl _ (by exact f2.drewN _) (by exact f3.drewN _)).mono ?_; rintro r w' ⟨hw', x, rfl, hx1, hx2, hx3⟩; obtain rfl := hw'.symm; have hxx : 0 ≤ x := (by exact hx3.2 HP.out)))
            go_ret2
            exact ⟨below_drewN hB1 _, .inl ⟨by rw [HE.out]; decide, by rw [HE.out]; rfl⟩⟩
          · have HE : Hid (Sh.err (Sh.mk k n i c ns zs col) = 0) := by
              show _ = _
              unfold Sh.err
              rw [if_neg (show ¬ ¬ _ from fun x => x hfine.out), if_neg (show ¬ ¬ _ from fun x => x hlisted.out), if_neg (show ¬ ¬ _ from fun x => x ((Sh.few_iff _).2 H3.out)), if_neg (show ¬ ¬ _ from fun x => x (HLong.out.2 HQ1.out)), if_neg (fun x => q2 (HBad.out.1 x))]
            have HP : Hid (¬ PadBad k i (tot zs) col) := q2
            have hwr : Hid (wrB (Sh.mk k n i c ns zs col) = sealB ([67, 65, 73, 82, 78, 49] ++ ([UInt8.ofNat k, UInt8.ofNat n, UInt8.ofNat i, 0] ++ (leB 4 c ++ (leB 4 (manTo ns zs ns.length).length ++ (leB 4 col.length ++ [0, 0]))))) ++ sealB (manTo ns zs ns.length) ++ framesTo c col (nFr c col.length) ++ [68, 79, 78, 69]) := by
              show _ = _
              unfold wrB headB manB
              simp only [Int.toNat_natCast]
              rw [b8_nat k (by omega), b8_nat n (by omega), b8_nat i (by omega)]
            clear q2
            go_wp2_with (first | (go_at_call 36; refine (fitMany_any _ _ ns zs hnl hzl H2.out hz2 _ (by exact f1) (by exact f2)).mono ?_; rintro r w' ⟨hw', hb⟩; obtain rfl := hb.yes H3.out; obtain rfl := hw'.symm; clear hb))
            go_big_quiet (first | (go_at_call 43; exact (K1' _).mono (fun _ _ h => ⟨h.1, _, h.2⟩)))
            go_wp2_with (first | (go_at_call 49; refine (padding_any _ _ k i rfl rfl hk1 (by omega) (by omega) _ _ zs hzl H2.out.2.2 hz2 ht col hcl _ (by exact f2.drewN _) (by exact f3.drewN _)).mono ?_; rintro r w' ⟨hw', x, rfl, hx1, hx2, hx3⟩; obtain rfl := hw'.symm; have hxx : x < 0 := (by rcases Int.lt_or_le x 0 with y | y; exact y; exact absurd (hx3.1 y) HP.out)) | (go_at_call 38; refine (rwritten_any k n i c (by omega) (by omega) (by omega) hc1 hc2 ns zs col H2 hnb ht hcl _ _ bc capc _ (by exact f1.drewN _) (by exact f2.drewN _) (by exact f3.drewN _)).mono ?_; rintro r w5 ⟨v5, rfl, hO5, hB5⟩))
            go_ret2
            have hs5 := (below_drewN hB1 nq).size
            refine ⟨(below_drewN hB1 nq).trans (hB5.mono hs5), .inr ⟨HE.out, _, rfl, ?_⟩⟩
            rw [hwr.out]
            exact hO5.base' hs5
        · have HE : Hid (Sh.err (Sh.mk k n i c ns zs col) = 15) := by
            show _ = _
            unfold Sh.err
            rw [if_neg (show ¬ ¬ _ from fun x => x hfine.out), if_neg (show ¬ ¬ _ from fun x => x hlisted.out), if_neg (show ¬ ¬ _ from fun x => x ((Sh.few_iff _).2 H3.out)), if_pos (fun x => q1 (HLong.out.1 x))]
          obtain ⟨L, eL⟩ : ∃ L, lenC k (tot zs) = L := ⟨_, rfl⟩
          simp only [eL] at K1 q1 hLr
          have hne : ((col.length : Int) == (L : Int)) = false := by simp; omega
          have hne2 : ((col.length : Int) != (L : Int)) = true := by simp; omega
          clear eL HLong HBad q1
          go_wp2_with (first | (go_at_call 36; refine (fitMany_any _ _ ns zs hnl hzl H2.out hz2 _ (by exact f1) (by exact f2)).mono ?_; rintro r w' ⟨hw', hb⟩; obtain rfl := hb.yes H3.out; obtain rfl := hw'.symm; clear hb))
          go_big_quiet (first | (go_at_call 43; exact (K1 _).mono (fun _ _ h => ⟨h.1, _, h.2⟩)))
          go_wp2
          go_ret2
          exact ⟨below_drewN hB1 _, .inl ⟨by rw [HE.out]; decide, by rw [HE.out]; rfl⟩⟩
      · have H3 : Hid (¬ FewOk ns zs) := h3
        have HE : Hid (Sh.err (Sh.mk k n i c ns zs col) = 3) := by
          show _ = _
          unfold Sh.err
          rw [if_neg (show ¬ ¬ _ from fun x => x hfine.out), if_neg (show ¬ ¬ _ from fun x => x hlisted.out), if_pos (fun x => h3 ((Sh.few_iff _).1 x))]
        clear h3
        go_wp2_with (first | (go_at_call 36; refine (fitMany_any _ _ ns zs hnl hzl H2.out hz2 _ (by exact f1) (by exact f2)).mono ?_; rintro r w' ⟨hw', hb⟩; obtain rfl := hb.no H3.out; obtain rfl := hw'.symm; clear hb))
        go_ret2
        exact ⟨hB1, .inl ⟨by rw [HE.out]; decide, by rw [HE.out]; rfl⟩⟩
end Go.Proofs.YtkpcmfgeanlcnaaDoor

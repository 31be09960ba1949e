/-
  What the program's Write of a shard answers.
-/
import Derived.Test.YtkpcmfgeanlcnaaDoorWrJ
import Derived.Test.YtkpcmfgeanlcnaaDoorWrE
import Derived.Deep.RegionHeld3
namespace Go.Proofs.YtkpcmfgeanlcnaaDoor
open Go.RowKit Go.Deep

theorem check_any (s : Sh) (vN vS vC : Value) (w : World) (h : s.In w vN vS vC) :
    Calls Tryd.prog 46 #[shV s vN vS vC] w fun r w' => r = .returned (.int .i64 (s.err : Nat)) ∧ Below w.heap.size w w' := by
  by_cases h1 : s.Fine
  · have hF := (Sh.fine_iff s).1 h1
    by_cases h2 : s.Listed
    · by_cases h3 : s.Few
      · have hk : s.K = (s.K.toNat : Int) := by have := h1.k1; omega
        have hi : s.I = (s.I.toNat : Int) := by have := h1.i0; omega
        refine check_rest s.K s.N s.I s.C s.ns s.zs s.col vN vS vC w h hF.1 hF.2.1 hF.2.2 ((Sh.listed_iff s).1 h2) ((Sh.few_iff s).1 h3) s.K.toNat s.I.toNat hk hi s.err ?_
        show s.err = _
        unfold Sh.err
        rw [if_neg (show ¬ ¬ s.Fine from fun x => x h1), if_neg (show ¬ ¬ s.Listed from fun x => x h2), if_neg (show ¬ ¬ s.Few from fun x => x h3)]
        unfold Sh.Long
        by_cases h4 : s.col.length = lenC s.K.toNat (tot s.zs)
        · rw [if_neg (show ¬ ¬ s.col.length = lenC s.K.toNat (tot s.zs) from fun x => x h4), if_neg (show ¬ ¬ s.col.length = lenC s.K.toNat (tot s.zs) from fun x => x h4)]
          have : s.Bad ↔ 0 ≤ firstI s.col (usedI s.K.toNat s.I.toNat (tot s.zs)) := by
            rw [bad_iff h4]
            unfold Sh.Bad
            constructor
            · rintro ⟨a, b⟩; exact ⟨by omega, b⟩
            · rintro ⟨a, b⟩; exact ⟨by omega, b⟩
          by_cases h5 : s.Bad
          · rw [if_pos h5, if_pos (this.1 h5)]
          · rw [if_neg h5, if_neg (fun x => h5 (this.2 x))]
        · rw [if_pos h4, if_pos h4]
      · have e : s.err = 3 := by unfold Sh.err; rw [if_neg (show ¬ ¬ s.Fine from fun x => x h1), if_neg (show ¬ ¬ s.Listed from fun x => x h2), if_pos h3]
        rw [e]
        exact check_many s.K s.N s.I s.C s.ns s.zs s.col vN vS vC w h hF.1 hF.2.1 hF.2.2 ((Sh.listed_iff s).1 h2) (fun x => h3 ((Sh.few_iff s).2 x))
    · have e : s.err = 2 := by unfold Sh.err; rw [if_neg (show ¬ ¬ s.Fine from fun x => x h1), if_pos h2]
      rw [e]
      exact check_list s.K s.N s.I s.C s.ns s.zs s.col vN vS vC w h hF.1 hF.2.1 hF.2.2 (fun x => h2 ((Sh.listed_iff s).2 x))
  · have e : s.err = 1 := by unfold Sh.err; rw [if_pos h1]
    rw [e]
    exact check_params s vN vS vC w h1
theorem Sh.err_lt (s : Sh) : s.err ≤ 15 := by
  unfold Sh.err
  repeat' split
  all_goals omega

set_option maxHeartbeats 2000000 in
set_option maxRecDepth 100000 in
theorem cwrite_err (s : Sh) (vN vS vC : Value) (w : World) (h : s.In w vN vS vC) (he : s.err ≠ 0) :
    Calls Tryd.prog 25 #[shV s vN vS vC] w fun r w' => r = .returned (.tuple #[.slice none 0 0, .int .i64 (s.err : Nat)]) ∧ Below w.heap.size w w' := by
  have hI := h.below ((Below.refl w.heap.size w).alloc (Nat.le_refl _) (.cells #[.int .i64 s.K, .int .i64 s.N, .int .i64 s.I, .int .i64 s.C, vN, vS, vC] 36))
  have K1 := check_any s vN vS vC _ hI
  have hel := s.err_lt
  obtain ⟨e, ee⟩ : ∃ e, s.err = e := ⟨_, rfl⟩
  rw [ee] at he K1 hel ⊢
  unfold shV at K1 ⊢
  have he1 : ((e : Int) == 0) = false := by simp; omega
  have he2 : ((e : Int) != 0) = true := by simp; omega
  clear ee h hI
  go_enter Tryd.func25, Tryd.ntmps25
  go_wp2_with (first | (go_at_call 46; refine K1.mono ?_; rintro r w1 ⟨rfl, hB⟩; obtain ⟨⟨c0, c1, c2, c3, c4, c5, c6⟩, hB1⟩ := box7 hB; clear hB))
  go_ret2
  exact ⟨rfl, hB1⟩

theorem Lies.heap {w w' : World} {v : Value} {xs : List Value} (h : Lies w v xs) (hh : w'.heap = w.heap) : Lies w' v xs := by
  obtain ⟨ba, cap, rfl, hle, hc⟩ := h
  refine ⟨ba, cap, rfl, hle, fun j u hj => ?_⟩
  obtain ⟨b, off, e, h1⟩ := hc j u hj
  refine ⟨b, off, e, ?_⟩
  unfold World.cell? at *
  rw [hh]; exact h1
theorem OwnB.base {B B' : Nat} {w : World} {v : Value} {l : List UInt8} (h : OwnB B w v l) (hB : B' ≤ B) : OwnB B' w v l := by
  refine ⟨h.1, ?_⟩
  rcases h.2 with x | ⟨g, cap, cur, h1, h2, h3⟩
  · exact .inl x
  · exact .inr ⟨g, cap, cur, h1, Nat.le_trans hB h2, h3⟩
theorem b8_nat (k : Nat) (hk : k ≤ 255) : b8 (k : Int) = UInt8.ofNat k := by
  unfold b8
  rw [Int.toNat_natCast, Nat.mod_eq_of_lt (by omega)]

set_option maxHeartbeats 4000000 in
set_option maxRecDepth 100000 in
theorem cwrite_nat (k n i c : Nat) (hk : k ≤ 128) (hn : n ≤ 128) (hi : i ≤ 128) (hc1 : 1 ≤ c) (hc2 : c ≤ 65536) (ns : List (List UInt8)) (zs : List Int) (col : List UInt8) (H2 : Hid (ListOk ns zs)) (hnl : ns.length ≤ 1000) (htt : tot zs ≤ 65536) (hcl : col.length ≤ 65536) (vN vS vC : Value) (w : World) (h : (Sh.mk k n i c ns zs col).In w vN vS vC) (he : (Sh.mk k n i c ns zs col).err = 0) (hT : Tab w) :
    Calls Tryd.prog 25 #[shV (Sh.mk k n i c ns zs col) vN vS vC] w fun r w' => ∃ v, r = .returned (.tuple #[v, .int .i64 0]) ∧ OwnB w.heap.size w' v (wrB (Sh.mk k n i c ns zs col)) ∧ Below w.heap.size w w' := by
  have hI := h.below ((Below.refl w.heap.size w).alloc (Nat.le_refl _) (.cells #[.int .i64 (k : Int), .int .i64 (n : Int), .int .i64 (i : Int), .int .i64 (c : Int), vN, vS, vC] 36))
  have K1 := check_any _ vN vS vC _ hI
  rw [he] at K1
  unfold shV at K1 ⊢
  obtain ⟨bc, capc, rfl, hcapc, _⟩ := id h.col
  rw [u8V_length] at hcapc K1 ⊢
  obtain ⟨M, eM⟩ : ∃ M, sealB (manTo ns zs ns.length) = M := ⟨_, rfl⟩
  have hMl : Hid (M.length = manN ns + 8) := by
    show _ = _
    rw [← eM, sealB_length, manTo_len, manNto_all]
  have hMb : M.length ≤ 1000000 := by
    have := manNto_le ns H2.out.2.1 ns.length (Nat.le_refl _)
    rw [manNto_all] at this
    have := hMl.out
    omega
  have hM8 : 8 ≤ M.length := by have := hMl.out; omega
  have EM : Hid (sealB (manTo ns zs ns.length) = M) := eM
  obtain ⟨R, eR⟩ : ∃ R, wrB (Sh.mk k n i c ns zs col) = R := ⟨_, rfl⟩
  have ER : Hid (sealB ([67, 65, 73, 82, 78, 49] ++ ([UInt8.ofNat k, UInt8.ofNat n, UInt8.ofNat i, 0] ++ (leB 4 c ++ (leB 4 (M.length - 8) ++ (leB 4 col.length ++ [0, 0]))))) ++ M ++ framesTo c col (nFr c col.length) ++ [68, 79, 78, 69] = R) := by
    show _ = _
    rw [← eR]
    unfold wrB headB manB
    simp only [Int.toNat_natCast]
    rw [b8_nat k (by omega), b8_nat n (by omega), b8_nat i (by omega), eM, hMl.out, manTo_len, manNto_all, Nat.add_sub_cancel]
  rw [eR]
  have hcol := h.col
  rw [u8V_length] at hcol
  have hnames := h.names
  have hsizes := h.sizes
  simp only at hcol hnames hsizes
  clear eM eR he h hI
  go_enter Tryd.func25, Tryd.ntmps25
  go_wp2_with (first | (go_at_call 46; refine K1.mono ?_; rintro r w1 ⟨rfl, hB⟩; obtain ⟨⟨c0, c1, c2, c3, c4, c5, c6⟩, hB1⟩ := box7 hB; have hxl : w.heap.size < w1.heap.size := by (have := hB.size; simp at this; omega)))
  clear K1 hB
  have g1 := hnames.below hB1
  have g2 := hsizes.below hB1
  have g3 := hcol.below hB1
  have hT1 := hT.below hB1 hT.1
  have hposw := hT.1
  go_region_held3 (fun w' => w'.cell? ⟨w.heap.size, 0, none⟩ = some (.int .i64 (k : Int)) ∧ w'.cell? ⟨w.heap.size, 1, none⟩ = some (.int .i64 (n : Int)) ∧ w'.cell? ⟨w.heap.size, 2, none⟩ = some (.int .i64 (i : Int)) ∧ w'.cell? ⟨w.heap.size, 3, none⟩ = some (.int .i64 (c : Int)) ∧ w'.cell? ⟨w.heap.size, 4, none⟩ = some vN ∧ w'.cell? ⟨w.heap.size, 5, none⟩ = some vS ∧ w'.cell? ⟨w.heap.size, 6, none⟩ = some (.slice bc col.length capc)) (go_keep)
    ((first
      | (go_at_call 48; refine (manifest_any vN vS ns zs H2.out hnl htt _ (by exact g1.heap rfl) (by exact g2.heap rfl) (by exact hT1.heap rfl)).mono ?_; rintro r w2 ⟨v2, rfl, hO2, hb2'⟩; rw [EM.out] at hO2; have hb2 : Below w1.heap.size w1 w2 := ⟨hb2'.os, hb2'.tape, hb2'.output, hb2'.size, hb2'.block⟩; clear hb2'; have hxl2 : w.heap.size < w2.heap.size := (by have := hb2.size; omega); obtain ⟨gm, capm, rfl, _, _, hgm, _, hbm⟩ := owns_byt hO2 (by omega); have d0 := (hb2.cell (p := ⟨w.heap.size, 0, none⟩) hxl).trans c0; have d1 := (hb2.cell (p := ⟨w.heap.size, 1, none⟩) hxl).trans c1; have d2 := (hb2.cell (p := ⟨w.heap.size, 2, none⟩) hxl).trans c2; have d3 := (hb2.cell (p := ⟨w.heap.size, 3, none⟩) hxl).trans c3; have d4 := (hb2.cell (p := ⟨w.heap.size, 4, none⟩) hxl).trans c4; have d5 := (hb2.cell (p := ⟨w.heap.size, 5, none⟩) hxl).trans c5; have d6 := (hb2.cell (p := ⟨w.heap.size, 6, none⟩) hxl).trans c6)
      | (go_at_call 47; refine (layWrite_any k n i c (by omega) (by omega) (by omega) hc1 hc2 vN vS bc col.length capc col rfl hcl gm capm M.length M rfl hM8 hMb _ (by exact g3.below hb2) (by exact hbm) (by exact hgm) (by exact hT1.below hb2 hT1.1)).mono ?_; rintro r w3 ⟨v3, rfl, hO3, hb3⟩; have e0 := (hb3.cell (p := ⟨w.heap.size, 0, none⟩) hxl2).trans d0; have e1 := (hb3.cell (p := ⟨w.heap.size, 1, none⟩) hxl2).trans d1; have e2 := (hb3.cell (p := ⟨w.heap.size, 2, none⟩) hxl2).trans d2; have e3 := (hb3.cell (p := ⟨w.heap.size, 3, none⟩) hxl2).trans d3; have e4 := (hb3.cell (p := ⟨w.heap.size, 4, none⟩) hxl2).trans d4; have e5 := (hb3.cell (p := ⟨w.heap.size, 5, none⟩) hxl2).trans d5; have e6 := (hb3.cell (p := ⟨w.heap.size, 6, none⟩) hxl2).trans d6)))
  go_wp2
  go_ret2
  refine ⟨_, rfl, ?_, hB1.trans ((hb2.mono (by omega)).trans (hb3.mono (by omega)))⟩
  rw [← ER.out]
  exact hO3.base (by omega)
theorem cwrite_ok (s : Sh) (vN vS vC : Value) (w : World) (h : s.In w vN vS vC) (he : s.err = 0) (hT : Tab w) :
    Calls Tryd.prog 25 #[shV s vN vS vC] w fun r w' => ∃ v, r = .returned (.tuple #[v, .int .i64 0]) ∧ OwnB w.heap.size w' v (wrB s) ∧ Below w.heap.size w w' := by
  have h1 : s.Fine := by
    apply Classical.byContradiction
    intro hx
    unfold Sh.err at he
    rw [if_pos hx] at he
    omega
  have h2 : s.Listed := by
    apply Classical.byContradiction
    intro hx
    unfold Sh.err at he
    rw [if_neg (show ¬ ¬ s.Fine from fun x => x h1), if_pos hx] at he
    omega
  have h3 : s.Few := by
    apply Classical.byContradiction
    intro hx
    unfold Sh.err at he
    rw [if_neg (show ¬ ¬ s.Fine from fun x => x h1), if_neg (show ¬ ¬ s.Listed from fun x => x h2), if_pos hx] at he
    omega
  have h4 : s.Long := by
    apply Classical.byContradiction
    intro hx
    unfold Sh.err at he
    rw [if_neg (show ¬ ¬ s.Fine from fun x => x h1), if_neg (show ¬ ¬ s.Listed from fun x => x h2), if_neg (show ¬ ¬ s.Few from fun x => x h3), if_pos hx] at he
    omega
  obtain ⟨K, N, I, C, ns, zs, col⟩ := s
  have f1 := h1.k1
  have f2 := h1.kn
  have f3 := h1.n1
  have f4 := h1.i0
  have f5 := h1.iN
  have f6 := h1.c1
  have f7 := h1.c2
  simp only at f1 f2 f3 f4 f5 f6 f7
  obtain ⟨k, rfl⟩ : ∃ k : Nat, K = k := ⟨K.toNat, by omega⟩
  obtain ⟨n, rfl⟩ : ∃ n : Nat, N = n := ⟨N.toNat, by omega⟩
  obtain ⟨i, rfl⟩ : ∃ i : Nat, I = i := ⟨I.toNat, by omega⟩
  obtain ⟨c, rfl⟩ : ∃ c : Nat, C = c := ⟨C.toNat, by omega⟩
  have h5 := h3.bytes
  have h6 : col.length = lenC k (tot zs) := by simpa [Sh.Long] using h4
  have h7 := lenC_le (k := k) (by omega) (tot zs)
  exact cwrite_nat k n i c (by omega) (by omega) (by omega) (by omega) (by omega) ns zs col ((Sh.listed_iff _).1 h2) h3.blobs h5 (by simp only at h5; omega) vN vS vC w h he hT
end Go.Proofs.YtkpcmfgeanlcnaaDoor

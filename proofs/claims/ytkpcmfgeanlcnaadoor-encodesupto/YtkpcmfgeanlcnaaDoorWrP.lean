/-
  What the program's appendHead leaves.
-/
import Derived.Test.YtkpcmfgeanlcnaaDoorWrG
import Derived.Test.YtkpcmfgeanlcnaaDoorWrE
import Derived.Test.YtkpcmfgeanlcnaaDoorWrO
namespace Go.Proofs.YtkpcmfgeanlcnaaDoor
open Go.RowKit Go.Deep

theorem cells_new4 (w : World) (a b c d : Value) (t : TypeId) : ∀ j u, [a, b, c, d][j]? = some u → (w.alloc (.cells #[a, b, c, d] t)).cell? ((⟨w.heap.size, 0, none⟩ : Addr).add j) = some u := by
  intro j u hj
  rw [add_off, Nat.zero_add]
  exact (RowAt.made w [a, b, c, d] t).cell hj
theorem cells_new2 (w : World) (a b : Value) (t : TypeId) : ∀ j u, [a, b][j]? = some u → (w.alloc (.cells #[a, b] t)).cell? ((⟨w.heap.size, 0, none⟩ : Addr).add j) = some u := by
  intro j u hj
  rw [add_off, Nat.zero_add]
  exact (RowAt.made w [a, b] t).cell hj
theorem u8_mod (k : Nat) (hk : k ≤ 255) : u8V [UInt8.ofNat k] = [.int .u8 (k : Int)] := by
  simp only [u8V, List.map_cons, List.map_nil]
  rw [UInt8.toNat_ofNat', Nat.mod_eq_of_lt (by omega)]

set_option maxHeartbeats 4000000 in
set_option maxRecDepth 100000 in
theorem appHead_any (B : Nat) (v0 : Value) (k n i c : Nat) (hk : k ≤ 255) (hn : n ≤ 255) (hi : i ≤ 255) (hc : c ≤ 65536) (vN vS : Value) (bc : Option Addr) (len cap : Nat) (hlen : len ≤ 1000000) (M : Int) (m : Nat) (hM : M = m) (hm : m ≤ 1000000) (w : World) (h0 : OwnB B w v0 []) (hB : B ≤ w.heap.size) (hT : Tab w) (hB0 : 0 < B) :
    Calls Tryd.prog 79 #[v0, .agg #[.int .i64 (k : Int), .int .i64 (n : Int), .int .i64 (i : Int), .int .i64 (c : Int), vN, vS, .slice bc len cap], .int .i64 M] w
      fun r w' => Gives B w (sealB ([67, 65, 73, 82, 78, 49] ++ ([UInt8.ofNat k, UInt8.ofNat n, UInt8.ofNat i, 0] ++ (leB 4 c ++ (leB 4 m ++ (leB 4 len ++ [0, 0])))))) r w' := by
  subst hM
  obtain ⟨i0, hi0, hz0, hz1, hz2⟩ := info_parts infoB8
  have hr0 := RowAt.made w [.int .i64 (k : Int), .int .i64 (n : Int), .int .i64 (i : Int), .int .i64 (c : Int), vN, vS, .slice bc len cap] 36
  have hOX := h0.alloc (.cells #[.int .i64 (k : Int), .int .i64 (n : Int), .int .i64 (i : Int), .int .i64 (c : Int), vN, vS, .slice bc len cap] 36)
  have hbX := (Below.refl B w).alloc hB (.cells #[.int .i64 (k : Int), .int .i64 (n : Int), .int .i64 (i : Int), .int .i64 (c : Int), vN, vS, .slice bc len cap] 36)
  have hkX := (KeepT.refl w).alloc (.cells #[.int .i64 (k : Int), .int .i64 (n : Int), .int .i64 (i : Int), .int .i64 (c : Int), vN, vS, .slice bc len cap] 36)
  obtain ⟨T, eT⟩ : ∃ T, sealB ([67, 65, 73, 82, 78, 49] ++ ([UInt8.ofNat k, UInt8.ofNat n, UInt8.ofNat i, 0] ++ (leB 4 c ++ (leB 4 m ++ (leB 4 len ++ [0, 0]))))) = T := ⟨_, rfl⟩
  have ET : Hid _ := eT
  rw [eT]
  clear eT
  have E4 : Hid (u8V [UInt8.ofNat k, UInt8.ofNat n, UInt8.ofNat i, 0] = [.int .u8 (k : Int), .int .u8 (n : Int), .int .u8 (i : Int), .int .u8 0]) := by
    show _ = _
    simp only [u8V, List.map_cons, List.map_nil, UInt8.toNat_ofNat']
    rw [Nat.mod_eq_of_lt (by omega), Nat.mod_eq_of_lt (by omega), Nat.mod_eq_of_lt (by omega)]
    rfl
  go_enter Tryd.func79, Tryd.ntmps79
  go_wp2_with (first
    | (at_builtin; refine Lib.wpList_append_own_string _ rfl _ _ 24 9 rfl B 5 i0 Tryd.underlying24 Tryd.underlying9 hi0 hz0 hz1 hz2 _ _ _ rfl hOX ⟨#[67, 65, 73, 82, 78, 49]⟩ rfl (by decide) (by decide) (by simp; omega) ?_; intro v1 w1 hown1 hgrow1 _; have hO1 : OwnB B w1 v1 ([] ++ [67, 65, 73, 82, 78, 49]) := OwnB.more hown1 rfl; have hk1 := hOX.keeps hgrow1; have hb1 := hOX.grown hgrow1 (by simp; omega); have hr1 := hr0.keep hk1 (by decide); have c0 := hr1.cell (i := 0) rfl; have c1 := hr1.cell (i := 1) rfl; have c2 := hr1.cell (i := 2) rfl; clear hown1 hgrow1 hOX hr0)
    | (at_builtin; refine wpList_append_own _ rfl _ _ 24 rfl B 5 i0 (.int .u8 0) 1 1 Tryd.underlying24 hi0 hz0 hz1 hz2 rfl (by decide) _ _ _ rfl (hO1.alloc _) ⟨w1.heap.size, 0, none⟩ 4 4 (u8V [UInt8.ofNat k, UInt8.ofNat n, UInt8.ofNat i, 0]) rfl rfl (by rw [E4.out]; exact cells_new4 _ _ _ _ _ _) (u8V_one _) (by decide) (by decide) (by have := hb1.size; simp at this ⊢; omega) ?_; intro v2 w2 hown2 hgrow2 _; have hO2 : OwnB B w2 v2 (([] ++ [67, 65, 73, 82, 78, 49]) ++ [UInt8.ofNat k, UInt8.ofNat n, UInt8.ofNat i, 0]) := OwnB.more hown2 rfl; have hs1 : B ≤ w1.heap.size := by have := hb1.size; (simp at this; omega)
       have hk2 : KeepT w1 w2 := ((KeepT.refl _).alloc _).trans ((hO1.alloc _).keeps hgrow2); have hb2 : Below B w1 w2 := ((Below.refl _ _).alloc hs1 _).trans ((hO1.alloc _).grown hgrow2 (by simp; omega)); have hr2 := hr1.keep hk2 (by decide); have c3 := hr2.cell (i := 3) rfl; have hs2 := hb2.size; have K2 := appNum_any (c : Int) 4 c 4 rfl (by omega) rfl (by omega) B v2 (([] ++ [67, 65, 73, 82, 78, 49]) ++ [UInt8.ofNat k, UInt8.ofNat n, UInt8.ofNat i, 0]) (by simp) w2 hO2 (by omega); clear hown2 hgrow2 c0 c1 c2 hO1 hO2 hr1)
    | (go_at_call 83; refine K2.mono ?_; clear K2; rintro r w3 ⟨v3, rfl, hO3, hb3, hk3⟩; have hs3 := hb3.size; have hr3 := hr2.keep hk3 (by decide); have K3 := appNum_any (m : Int) 4 m 4 rfl (by omega) rfl (by omega) B v3 ((([] ++ [67, 65, 73, 82, 78, 49]) ++ [UInt8.ofNat k, UInt8.ofNat n, UInt8.ofNat i, 0]) ++ leB 4 c) (by simp [leB_length]) w3 hO3 (by omega); clear hO3 hr2 c3)
    | (go_at_call 83; refine K3.mono ?_; clear K3; rintro r w4 ⟨v4, rfl, hO4, hb4, hk4⟩; have hs4 := hb4.size; have hr4 := hr3.keep hk4 (by decide); have c6 := hr4.cell (i := 6) rfl; have K4 := appNum_any (len : Int) 4 len 4 rfl (by omega) rfl (by omega) B v4 (((([] ++ [67, 65, 73, 82, 78, 49]) ++ [UInt8.ofNat k, UInt8.ofNat n, UInt8.ofNat i, 0]) ++ leB 4 c) ++ leB 4 m) (by simp [leB_length]) w4 hO4 (by omega); clear hO4 hr3 hr4)
    | (go_at_call 83; refine K4.mono ?_; clear K4; rintro r w5 ⟨v5, rfl, hO5, hb5, hk5⟩; have hs5 := hb5.size; clear c6)
    | (at_builtin; refine wpList_append_own _ rfl _ _ 24 rfl B 5 i0 (.int .u8 0) 1 1 Tryd.underlying24 hi0 hz0 hz1 hz2 rfl (by decide) _ _ _ rfl (hO5.alloc _) ⟨w5.heap.size, 0, none⟩ 2 2 (u8V [0, 0]) rfl rfl (cells_new2 _ _ _ _) (u8V_one _) (by simp [leB_length]; decide) (by simp [leB_length]) (by simp; omega) ?_; intro v6 w6 hown6 hgrow6 _; have hO6 : OwnB B w6 v6 (((((([] ++ [67, 65, 73, 82, 78, 49]) ++ [UInt8.ofNat k, UInt8.ofNat n, UInt8.ofNat i, 0]) ++ leB 4 c) ++ leB 4 m) ++ leB 4 len) ++ [0, 0]) := OwnB.more hown6 rfl; have hk6 : KeepT w5 w6 := ((KeepT.refl _).alloc _).trans ((hO5.alloc _).keeps hgrow6); have hb6 : Below B w5 w6 := ((Below.refl _ _).alloc (by omega) _).trans ((hO5.alloc _).grown hgrow6 (by simp; omega)); have hs6 := hb6.size
       have hb7 : Below B w w6 := hbX.trans (hb1.trans (hb2.trans (hb3.trans (hb4.trans (hb5.trans hb6))))); have hk7 : KeepT w w6 := hkX.trans (hk1.trans (hk2.trans (hk3.trans (hk4.trans (hk5.trans hk6))))); have K6 := appSum_self B v6 (((((([] ++ [67, 65, 73, 82, 78, 49]) ++ [UInt8.ofNat k, UInt8.ofNat n, UInt8.ofNat i, 0]) ++ leB 4 c) ++ leB 4 m) ++ leB 4 len) ++ [0, 0]) (by simp [leB_length]) (by simp) w6 hO6 (by omega) (hT.below hb7 hB0); clear hown6 hgrow6 hO5 hO6 hb1 hb2 hb3 hb4 hb5 hb6 hbX hk1 hk2 hk3 hk4 hk5 hk6 hkX)
    | (go_at_call 81; refine K6.mono ?_; clear K6; rintro r w8 ⟨v8, rfl, hO8, hb8, hk8⟩))
  go_ret
  refine ⟨_, rfl, ?_, hb7.trans hb8, hk7.trans hk8⟩
  rw [← ET.out]
  simpa [List.append_assoc] using hO8
end Go.Proofs.YtkpcmfgeanlcnaaDoor

/-
  What the document's Written answers.
-/
namespace Go.Proofs.YtkpcmfgeanlcnaaDoor
open Go.RowKit Go.Deep

theorem OwnB.made (w : World) (l : List UInt8) (hl : l.length ≤ maxLen) (cs : Array Value) (e : cs = (u8V l).toArray) (m : Nat) (hm : l.length = m) : OwnB w.heap.size (w.alloc (.cells cs 5)) (.slice (some ⟨w.heap.size, 0, none⟩) m m) l := by
  subst e hm
  refine ⟨by rw [u8V_length, Nat.mul_one], .inr ⟨w.heap.size, l.length, (u8V l).toArray, rfl, Nat.le_refl _, RowAt.made w (u8V l) 5, Nat.le_refl _, hl, by simp [u8V_length], ?_⟩⟩
  rw [Nat.mul_one]
  show (u8V l).take l.length = u8V l
  rw [← u8V_length l, List.take_length]
theorem frameB_len2 (c : Nat) (col : List UInt8) (k : Nat) : (frameB c col k).length ≤ c + 8 := by
  unfold frameB
  rw [sealB_length]
  have : (part col (k * c) (min c (col.length - k * c))).length ≤ min c (col.length - k * c) := by unfold part; exact List.length_take_le _ _
  omega
theorem framesTo_len2 (c : Nat) (col : List UInt8) : ∀ k, (framesTo c col k).length ≤ k * (c + 8)
  | 0 => by simp [framesTo]
  | k + 1 => by
    have h1 := framesTo_len2 c col k
    have h2 := frameB_len2 c col k
    rw [framesTo_succ, List.length_append, Nat.add_mul, Nat.one_mul]
    omega
theorem OwnB.base' {B B' : Nat} {w : World} {v : Value} {l : List UInt8} (h : OwnB B w v l) (hB : B' ≤ B) : OwnB B' w v l := by
  refine ⟨h.1, ?_⟩
  rcases h.2 with x | ⟨g, cap, cur, h1, h2, h3⟩
  · exact .inl x
  · exact .inr ⟨g, cap, cur, h1, Nat.le_trans hB h2, h3⟩

set_option maxHeartbeats 8000000 in
set_option maxRecDepth 100000 in
theorem rwritten_any (k n i c : Nat) (hk : k ≤ 255) (hn : n ≤ 255) (hi : i ≤ 255) (hc : 1 ≤ c) (hc2 : c ≤ 65536) (ns : List (List UInt8)) (zs : List Int) (col : List UInt8) (H2 : Hid (ListOk ns zs)) (hnl : ns.length ≤ 1000) (htt : tot zs ≤ 65536) (hcl : col.length ≤ 65536) (vN vS : Value) (bc : Option Addr) (capc : Nat)
    (w : World) (hnames : Lies w vN (nameV ns)) (hsizes : Lies w vS (intV zs)) (hcol : Lies w (.slice bc col.length capc) (u8V col)) :
    Calls Tryd.prog 38 #[.agg #[.int .i64 (k : Int), .int .i64 (n : Int), .int .i64 (i : Int), .int .i64 (c : Int), vN, vS, .slice bc col.length capc]] w
      fun r w' => ∃ v, r = .returned v ∧ OwnB w.heap.size w' v (sealB ([67, 65, 73, 82, 78, 49] ++ ([UInt8.ofNat k, UInt8.ofNat n, UInt8.ofNat i, 0] ++ (leB 4 c ++ (leB 4 (manTo ns zs ns.length).length ++ (leB 4 col.length ++ [0, 0]))))) ++ sealB (manTo ns zs ns.length) ++ framesTo c col (nFr c col.length) ++ [68, 79, 78, 69]) ∧ Below w.heap.size w w' := by
  obtain ⟨i0, hi0, hz0, hz1, hz2⟩ := info_parts infoB8
  have hB0 := (Below.refl w.heap.size w).alloc (Nat.le_refl _) (.cells #[.int .i64 (k : Int), .int .i64 (n : Int), .int .i64 (i : Int), .int .i64 (c : Int), vN, vS, .slice bc col.length capc] 36)
  have hr0 := RowAt.made w [.int .i64 (k : Int), .int .i64 (n : Int), .int .i64 (i : Int), .int .i64 (c : Int), vN, vS, .slice bc col.length capc] 36
  have K0 := rmanifest_any vN vS ns zs H2.out hnl htt _ (hnames.below hB0) (hsizes.below hB0)
  obtain ⟨b, off, hba, hby⟩ : ∃ b off, (0 < col.length → bc = some ⟨b, off, none⟩) ∧ Byt w b off col := by
    obtain ⟨ba, cap', e, _, hh⟩ := hcol
    injection e with e1 e2 e3
    subst e1
    rcases Nat.eq_zero_or_pos col.length with h0 | h0
    · exact ⟨0, 0, fun h => by omega, fun j hj => by omega⟩
    · obtain ⟨b, off, e4, _⟩ := hh 0 _ (u8V_get (by omega))
      refine ⟨b, off, fun _ => e4, fun j hj => ?_⟩
      obtain ⟨b', off', e5, h5⟩ := hh j _ (u8V_get hj)
      rw [e4] at e5
      injection e5 with e5
      injection e5 with e6 e7
      subst e6 e7
      exact h5
  have hcapc : col.length ≤ capc := by
    obtain ⟨ba, cap', e, h, _⟩ := hcol
    injection e with e1 e2 e3
    rw [u8V_length] at h
    omega
  obtain ⟨MB, eMB⟩ : ∃ MB, manTo ns zs ns.length = MB := ⟨_, rfl⟩
  have hMl : MB.length ≤ 1000000 := by
    have := manNto_le ns H2.out.2.1 ns.length (Nat.le_refl _)
    rw [← eMB, manTo_len]; omega
  have hM0 : 4 ≤ MB.length := by rw [← eMB, manTo_len]; unfold manNto; omega
  rw [eMB] at K0 ⊢
  obtain ⟨R1, eR1⟩ : ∃ R1, sealB ([67, 65, 73, 82, 78, 49] ++ ([UInt8.ofNat k, UInt8.ofNat n, UInt8.ofNat i, 0] ++ (leB 4 c ++ (leB 4 MB.length ++ (leB 4 col.length ++ [0, 0]))))) ++ sealB MB = R1 := ⟨_, rfl⟩
  have hR1 : Hid (sealB ([67, 65, 73, 82, 78, 49] ++ ([UInt8.ofNat k, UInt8.ofNat n, UInt8.ofNat i, 0] ++ (leB 4 c ++ (leB 4 MB.length ++ (leB 4 col.length ++ [0, 0]))))) ++ sealB MB = R1) := eR1
  have hR1l : Hid (R1.length = 32 + MB.length + 8) := by
    show _ = _
    rw [← eR1]
    simp only [List.length_append, sealB_length, leB_length, List.length_cons, List.length_nil]
    omega
  rw [eR1]
  have E10 : Hid (#[.int .u8 67, .int .u8 65, .int .u8 73, .int .u8 82, .int .u8 78, .int .u8 49, .int .u8 (k : Int), .int .u8 (n : Int), .int .u8 (i : Int), .int .u8 0] = (u8V [67, 65, 73, 82, 78, 49, UInt8.ofNat k, UInt8.ofNat n, UInt8.ofNat i, 0]).toArray) := by
    show _ = _
    simp only [u8V, List.map_cons, List.map_nil, UInt8.toNat_ofNat']
    rw [Nat.mod_eq_of_lt (by omega), Nat.mod_eq_of_lt (by omega), Nat.mod_eq_of_lt (by omega)]
    rfl
  clear eR1 eMB hnames hsizes hcol
  go_enter Tryd.func38, Tryd.ntmps38
  go_wp2_with (first
    | (go_at_call 69; refine K0.mono ?_; clear K0; rintro r w1 ⟨vm, rfl, hOm, hb1⟩; have hr1 := hr0.later (S := fun _ => False) (.of_below hb1) (by simp) id; have hB1 := hB0.trans (hb1.mono (by simp)); have hs1 := hB1.size; obtain ⟨gm, cm, rfl, _, _, hgm1, _, _⟩ := owns_byt hOm (by omega); have c0 := hr1.cell (i := 0) rfl; have c1 := hr1.cell (i := 1) rfl; have c2 := hr1.cell (i := 2) rfl; have hrA := hr1.keep ((KeepT.refl _).alloc (.cells #[.int .u8 67, .int .u8 65, .int .u8 73, .int .u8 82, .int .u8 78, .int .u8 49, .int .u8 (k : Int), .int .u8 (n : Int), .int .u8 (i : Int), .int .u8 0] 5)) (by decide); have c3 := hrA.cell (i := 3) rfl
       have hOhA := OwnB.made w1 [67, 65, 73, 82, 78, 49, UInt8.ofNat k, UInt8.ofNat n, UInt8.ofNat i, 0] (by simp [maxLen]) #[.int .u8 67, .int .u8 65, .int .u8 73, .int .u8 82, .int .u8 78, .int .u8 49, .int .u8 (k : Int), .int .u8 (n : Int), .int .u8 (i : Int), .int .u8 0] E10.out 10 rfl; have hOmA := hOm.alloc (.cells #[.int .u8 67, .int .u8 65, .int .u8 73, .int .u8 82, .int .u8 78, .int .u8 49, .int .u8 (k : Int), .int .u8 (n : Int), .int .u8 (i : Int), .int .u8 0] 5); have hapm := Apt.new hOm hOhA (Nat.le_refl _); have hBA := hB1.alloc hs1 (.cells #[.int .u8 67, .int .u8 65, .int .u8 73, .int .u8 82, .int .u8 78, .int .u8 49, .int .u8 (k : Int), .int .u8 (n : Int), .int .u8 (i : Int), .int .u8 0] 5); have KA := number_any (c : Int) 4 c 4 rfl (by omega) rfl (by omega) (w1.alloc (.cells #[.int .u8 67, .int .u8 65, .int .u8 73, .int .u8 82, .int .u8 78, .int .u8 49, .int .u8 (k : Int), .int .u8 (n : Int), .int .u8 (i : Int), .int .u8 0] 5)); clear hr0 hB0 hb1 hOm hr1 hB1)
    | (go_at_call 70; refine KA.mono ?_; clear KA; rintro r w2 ⟨va, rfl, hOa, hb2, _⟩; have hs2 := hb2.size; simp only [World.size_alloc] at hs2; have hB2 := hBA.trans (hb2.mono hBA.size); have hr2 := hrA.later (S := fun _ => False) (.of_below hb2) hrA.lt id; have hOm2 := hOmA.below hb2; have hOh2 := hOhA.below hb2; have hapa := (Apt.new hOhA hOa (Nat.le_refl _)).symm; have KB := number_any (MB.length : Int) 4 MB.length 4 rfl (by omega) rfl (by omega) w2; clear c0 c1 c2 c3)
    | (go_at_call 70; refine KB.mono ?_; clear KB; rintro r w3 ⟨vb, rfl, hOb, hb3, _⟩; have hs3 := hb3.size; have hB3 := hB2.trans (hb3.mono hB2.size); have hr3 := hr2.later (S := fun _ => False) (.of_below hb3) hr2.lt id; have hOm3 := hOm2.below hb3; have hOh3 := hOh2.below hb3; have hOa3 := hOa.below hb3; have hapb := (Apt.new hOh2 hOb (Nat.le_refl _)).symm; have c6 := hr3.cell (i := 6) rfl; have KC := number_any (col.length : Int) 4 col.length 4 rfl (by omega) rfl (by omega) w3; clear hB2 hr2 hOm2 hOh2 hOa)
    | (go_at_call 70; refine KC.mono ?_; clear KC; rintro r w4 ⟨vc, rfl, hOc, hb4, _⟩; have hs4 := hb4.size; have hB4 := hB3.trans (hb4.mono hB3.size); have hr4 := hr3.later (S := fun _ => False) (.of_below hb4) hr3.lt id; have hOm4 := hOm3.below hb4; have hOh4 := (hOh3.below hb4).base' (B' := w.heap.size) hs1; have hOa4 := hOa3.below hb4; have hOb4 := hOb.below hb4; have hapc := (Apt.new hOh3 hOc (Nat.le_refl _)).symm; have hs4' := hB4.size; obtain ⟨ga, ca, ea, _, _, _, _, hya⟩ := owns_byt hOa4 (by simp [leB_length]); rw [leB_length] at ea; subst ea; clear c6 hB3 hr3 hOm3 hOh3 hOa3 hOb hOa4 hOhA hOmA hBA hrA hapa)
    | (at_builtin; refine wpList_append_own_at _ rfl _ _ 24 rfl w.heap.size 5 i0 (.int .u8 0) 1 1 Tryd.underlying24 hi0 hz0 hz1 hz2 rfl (by decide) _ _ _ rfl hOh4 ⟨ga, 0, none⟩ 4 ca (u8V (leB 4 c)) rfl (by rw [u8V_length, leB_length]) hya.news (u8V_one _) (by simp [maxLen]) (by simp) (by omega) ?_; intro v5 w5 hown5 hgrow5 _ hblk5; have hOh5 : OwnB w.heap.size w5 v5 ([67, 65, 73, 82, 78, 49, UInt8.ofNat k, UInt8.ofNat n, UInt8.ofNat i, 0] ++ leB 4 c) := OwnB.more hown5 rfl; obtain ⟨hOb5, ab5⟩ := hOb4.step hapb hgrow5 hblk5; obtain ⟨hOc5, ac5⟩ := hOc.step hapc hgrow5 hblk5; obtain ⟨hOm5, am5⟩ := hOm4.step hapm hgrow5 hblk5; have hr5 := hr4.keep (hOh4.keeps hgrow5) (by decide); have hB5 := hB4.trans (hOh4.grown hgrow5 (by omega)); have hs5 := hB5.size; obtain ⟨gb, cb, eb, _, _, _, _, hyb⟩ := owns_byt hOb5 (by simp [leB_length]); rw [leB_length] at eb; subst eb; clear hown5 hgrow5 hblk5 hOh4 hya hOb4 hOc hOm4 hr4 hB4 hapb hapc hapm)
    | (at_builtin; refine wpList_append_own_at _ rfl _ _ 24 rfl w.heap.size 5 i0 (.int .u8 0) 1 1 Tryd.underlying24 hi0 hz0 hz1 hz2 rfl (by decide) _ _ _ rfl hOh5 ⟨gb, 0, none⟩ 4 cb (u8V (leB 4 MB.length)) rfl (by rw [u8V_length, leB_length]) hyb.news (u8V_one _) (by simp [leB_length, maxLen]) (by simp [leB_length]) (by omega) ?_; intro v6 w6 hown6 hgrow6 _ hblk6; have hOh6 : OwnB w.heap.size w6 v6 ([67, 65, 73, 82, 78, 49, UInt8.ofNat k, UInt8.ofNat n, UInt8.ofNat i, 0] ++ leB 4 c ++ leB 4 MB.length) := OwnB.more hown6 rfl; obtain ⟨hOc6, ac6⟩ := hOc5.step ac5 hgrow6 hblk6; obtain ⟨hOm6, am6⟩ := hOm5.step am5 hgrow6 hblk6; have hr6 := hr5.keep (hOh5.keeps hgrow6) (by decide); have hB6 := hB5.trans (hOh5.grown hgrow6 (by omega)); have hs6 := hB6.size; obtain ⟨gc, cc, ec, _, _, _, _, hyc⟩ := owns_byt hOc6 (by simp [leB_length]); rw [leB_length] at ec; subst ec; clear hown6 hgrow6 hblk6 hOh5 hyb hOb5 hOc5 hOm5 hr5 hB5 ab5 ac5 am5)
    | (at_builtin; refine wpList_append_own_at _ rfl _ _ 24 rfl w.heap.size 5 i0 (.int .u8 0) 1 1 Tryd.underlying24 hi0 hz0 hz1 hz2 rfl (by decide) _ _ _ rfl hOh6 ⟨gc, 0, none⟩ 4 cc (u8V (leB 4 col.length)) rfl (by rw [u8V_length, leB_length]) hyc.news (u8V_one _) (by simp [leB_length, maxLen]) (by simp [leB_length]) (by omega) ?_; intro v7 w7 hown7 hgrow7 _ hblk7; have hOh7 : OwnB w.heap.size w7 v7 ([67, 65, 73, 82, 78, 49, UInt8.ofNat k, UInt8.ofNat n, UInt8.ofNat i, 0] ++ leB 4 c ++ leB 4 MB.length ++ leB 4 col.length) := OwnB.more hown7 rfl; obtain ⟨hOm7, am7⟩ := hOm6.step am6 hgrow7 hblk7; have hr7 := hr6.keep (hOh6.keeps hgrow7) (by decide); have hB7 := hB6.trans (hOh6.grown hgrow7 (by omega)); have hs7 := hB7.size; clear hown7 hgrow7 hblk7 hOh6 hyc hOc6 hOm6 hr6 hB6 ac6 am6)
    | (at_builtin; refine wpList_append_own_at _ rfl _ _ 24 rfl w.heap.size 5 i0 (.int .u8 0) 1 1 Tryd.underlying24 hi0 hz0 hz1 hz2 rfl (by decide) _ _ _ rfl (hOh7.alloc _) ⟨w7.heap.size, 0, none⟩ 2 2 (u8V [0, 0]) rfl rfl (cells_new2 _ _ _ _) (u8V_one _) (by simp [leB_length, maxLen]) (by simp [leB_length]) (by simp; omega) ?_; intro v8 w8 hown8 hgrow8 _ hblk8; have hOh8 : OwnB w.heap.size w8 v8 ([67, 65, 73, 82, 78, 49, UInt8.ofNat k, UInt8.ofNat n, UInt8.ofNat i, 0] ++ leB 4 c ++ leB 4 MB.length ++ leB 4 col.length ++ [0, 0]) := OwnB.more hown8 rfl; have hOm8 := (hOm7.alloc _).kept am7 hgrow8; have hr8 := hr7.keep (((KeepT.refl _).alloc _).trans ((hOh7.alloc _).keeps hgrow8)) (by decide); have hB8 := hB7.trans (((Below.refl _ _).alloc (by omega) _).trans ((hOh7.alloc _).grown hgrow8 (by simp; omega))); have hs8 := hB8.size; obtain ⟨HD, eHD⟩ : ∃ HD, [67, 65, 73, 82, 78, 49, UInt8.ofNat k, UInt8.ofNat n, UInt8.ofNat i, 0] ++ leB 4 c ++ leB 4 MB.length ++ leB 4 col.length ++ [0, 0] = HD := ⟨_, rfl⟩; have hHDl : Hid (HD.length = 24) := (by show _ = _; rw [← eHD]; simp [leB_length]); rw [eHD] at hOh8; obtain ⟨gh, ch, rfl, _, _, hgh, _, hyh⟩ := owns_byt hOh8 (by have := hHDl.out; omega); have K9 := sealed_any gh 0 ch HD (by have := hHDl.out; omega) w8 hyh hgh; have eHD' : Hid _ := eHD; clear eHD; clear hown8 hgrow8 hblk8 hOh7 hOm7 hr7 hB7 am7)
    | (go_at_call 71; refine K9.mono ?_; clear K9; rintro r w9 ⟨vo, rfl, hown9, hb9⟩; have hOo : OwnB w8.heap.size w9 vo (sealB HD) := OwnB.of hown9; have hOm9 := hOm8.below hb9; have hr9 := hr8.later (S := fun _ => False) (.of_below hb9) hr8.lt id; have hB9 := hB8.trans (hb9.mono hB8.size); have hs9 := hB9.size; obtain ⟨gm9, cm9, em9, _, _, hgm9, _, hym9⟩ := owns_byt hOm9 (by omega); injection em9 with em9 _ em10; injection em9 with em9; injection em9 with em9; subst em9 em10; have K10 := sealed_of gm 0 MB.length cm MB rfl (by omega) w9 hym9 hgm9; clear hown9 hOm8 hr8 hB8 hOh8 hyh)
    | (go_at_call 71; refine K10.mono ?_; clear K10; rintro r w10 ⟨gq, cq, rfl, _, _, hyq, hb10⟩; have hOo10 := (hOo.below hb10).base' (B' := w.heap.size) (by omega); have hr10 := hr9.later (S := fun _ => False) (.of_below hb10) hr9.lt id; have hB10 := hB9.trans (hb10.mono hB9.size); have hs10 := hB10.size; clear hOo hOm9 hym9 hr9 hB9)
    | (at_builtin; refine wpList_append_own _ rfl _ _ 24 rfl w.heap.size 5 i0 (.int .u8 0) 1 1 Tryd.underlying24 hi0 hz0 hz1 hz2 rfl (by decide) _ _ _ rfl hOo10 ⟨gq, 0, none⟩ (MB.length + 8) cq (u8V (MB ++ leB 8 (sumOf MB))) rfl (by rw [u8V_length, List.length_append, leB_length]; omega) hyq.news (u8V_one _) (by rw [sealB_length]; have := hHDl.out; unfold maxLen; omega) (by rw [sealB_length]; have := hHDl.out; omega) (by omega) ?_; intro v11 w11 hown11 hgrow11 _; have hO11 : OwnB w.heap.size w11 v11 (sealB HD ++ sealB MB) := OwnB.more hown11 rfl; have hr11 := hr10.keep (hOo10.keeps hgrow11) (by decide); have hB11 := hB10.trans (hOo10.grown hgrow11 (by omega)); clear hown11 hgrow11 hOo10 hyq hr10 hB10))
  have hO11' : OwnB w.heap.size w11 v11 R1 := by
    rw [← hR1.out]
    have := hO11
    rw [← eHD'.out] at this
    simpa [List.append_assoc] using this
  clear hO11 eHD' hHDl
  clear hM0 hR1
  go_loopw [8, 10, 11, 12] (fun v va _ _ wr => ∃ k' : Nat, k' ≤ nFr c col.length ∧ va = .int .i64 ((k' * c : Nat) : Int) ∧ OwnB w.heap.size wr v (R1 ++ framesTo c col k') ∧ Below w.heap.size w wr ∧ RowAt wr w.heap.size [.int .i64 (k : Int), .int .i64 (n : Int), .int .i64 (i : Int), .int .i64 (c : Int), vN, vS, .slice bc col.length capc] 36) (fun _ x _ _ _ => 10000000 - (intOf x).toNat)
  case atStart => exact ⟨0, by omega, by simp, by simpa [framesTo] using hO11', hB11, hr11⟩
  case round =>
    obtain ⟨k', hk', rfl, hO, hB, hr⟩ := hrel
    clear hO11' hB11 hr11
    have c3 := hr.cell (i := 3) rfl
    have c6 := hr.cell (i := 6) rfl
    have hLb : (R1 ++ framesTo c col k').length ≤ 10000000000 := by
      have h1 := framesTo_len2 c col k'
      have h4 : k' * (c + 8) ≤ 65537 * (65536 + 8) := by
        refine Nat.mul_le_mul ?_ (by omega)
        rcases Nat.eq_zero_or_pos k' with x | x
        · omega
        · have h2 : (k' - 1) * c < col.length := (nFr_lt hc).1 (by omega)
          have h3 : (k' - 1) * 1 ≤ (k' - 1) * c := Nat.mul_le_mul_left _ hc
          omega
      have := hR1l.out
      rw [List.length_append]
      omega
    have hsW := hB.size
    by_cases hlt : k' * c < col.length
    · have hkn : k' < nFr c col.length := (nFr_lt hc).2 hlt
      obtain rfl := hba (by omega)
      have hk1 : Hid ((k' + 1) * c = k' * c + c) := by show _ = _; rw [Nat.add_mul, Nat.one_mul]
      have hbb : b < w.heap.size := cell_lt (hby 0 (by omega))
      have hbW : Byt wr b off col := hby.later (.of_below (S := fun _ => False) hB) hbb id
      have LS : Hid (R1 ++ framesTo c col (k' + 1) = (R1 ++ framesTo c col k') ++ (part col (k' * c) (min c (col.length - k' * c)) ++ leB 8 (sumOf (part col (k' * c) (min c (col.length - k' * c)))))) := by
        show _ = _
        rw [framesTo_succ, List.append_assoc]
        rfl
      have hfl : (part col (k' * c) (min c (col.length - k' * c))).length = min c (col.length - k' * c) := part_length (by omega)
      have hfr : Byt wr b (off + k' * c) (part col (k' * c) (min c (col.length - k' * c))) := hbW.part (by omega)
      obtain ⟨L, eL⟩ : ∃ L, R1 ++ framesTo c col k' = L := ⟨_, rfl⟩
      obtain ⟨p, ep⟩ : ∃ p, k' * c = p := ⟨_, rfl⟩
      simp only [eL, ep] at hO hLb LS hfl hfr hlt hk1 ⊢
      obtain ⟨m, em⟩ : ∃ m, min c (col.length - p) = m := ⟨_, rfl⟩
      have hm1 : 1 ≤ m := by omega
      have hm2 : m ≤ 65536 := by omega
      simp only [em] at hfl hfr LS
      obtain ⟨fr, efr⟩ : ∃ fr, part col p m = fr := ⟨_, rfl⟩
      simp only [efr] at hfl hfr LS
      have K1 := sealed_of b (off + p) m (capc - p) fr hfl (by omega) wr hfr (by omega)
      have HFL : Hid (fr.length = m) := hfl
      clear eL ep efr hbW hby hba hfr hfl
      rcases Nat.lt_or_ge (col.length - p) c with q | q
      · obtain rfl : m = col.length - p := by omega
        clear em
        go_wp2_with (first
          | (go_at_call 71; refine K1.mono ?_; clear K1; rintro r w2 ⟨g, cg, rfl, _, _, hyf, hb2⟩; have hO2 := hO.below hb2; have hr2 := hr.later (S := fun _ => False) (.of_below hb2) hr.lt id; have hB2 := hB.trans (hb2.mono hB.size); have hs2 := hB2.size)
          | (at_builtin; refine wpList_append_own _ rfl _ _ 24 rfl w.heap.size 5 i0 (.int .u8 0) 1 1 Tryd.underlying24 hi0 hz0 hz1 hz2 rfl (by decide) _ _ _ rfl hO2 ⟨g, 0, none⟩ (col.length - p + 8) cg (u8V (fr ++ leB 8 (sumOf fr))) rfl (by rw [u8V_length, List.length_append, leB_length, HFL.out]; omega) hyf.news (u8V_one _) (by unfold maxLen; omega) (by omega) (by omega) ?_; intro v3 w3 hown3 hgrow3 _; have hO3 : OwnB w.heap.size w3 v3 (L ++ (fr ++ leB 8 (sumOf fr))) := OwnB.more hown3 rfl; have hr3 := hr2.keep (hO2.keeps hgrow3) (by decide); have hB3 := hB2.trans (hO2.grown hgrow3 (by omega)); have e3 := hr3.cell (i := 3) rfl; clear hown3 hgrow3 hO2 hr2 hyf))
        go_roundw
        case rel => exact ⟨k' + 1, by omega, by rw [hk1.out]; go_num, by rw [LS.out]; exact hO3, hB3, hr3⟩
        case measure => simp [intOf]; omega
      · obtain rfl : m = c := by omega
        clear em
        go_wp2_with (first
          | (go_at_call 71; refine K1.mono ?_; clear K1; rintro r w2 ⟨g, cg, rfl, _, _, hyf, hb2⟩; have hO2 := hO.below hb2; have hr2 := hr.later (S := fun _ => False) (.of_below hb2) hr.lt id; have hB2 := hB.trans (hb2.mono hB.size); have hs2 := hB2.size)
          | (at_builtin; refine wpList_append_own _ rfl _ _ 24 rfl w.heap.size 5 i0 (.int .u8 0) 1 1 Tryd.underlying24 hi0 hz0 hz1 hz2 rfl (by decide) _ _ _ rfl hO2 ⟨g, 0, none⟩ (m + 8) cg (u8V (fr ++ leB 8 (sumOf fr))) rfl (by rw [u8V_length, List.length_append, leB_length, HFL.out]; omega) hyf.news (u8V_one _) (by unfold maxLen; omega) (by omega) (by omega) ?_; intro v3 w3 hown3 hgrow3 _; have hO3 : OwnB w.heap.size w3 v3 (L ++ (fr ++ leB 8 (sumOf fr))) := OwnB.more hown3 rfl; have hr3 := hr2.keep (hO2.keeps hgrow3) (by decide); have hB3 := hB2.trans (hO2.grown hgrow3 (by omega)); have e3 := hr3.cell (i := 3) rfl; clear hown3 hgrow3 hO2 hr2 hyf))
        go_roundw
        case rel => exact ⟨k' + 1, by omega, by rw [hk1.out]; go_num, by rw [LS.out]; exact hO3, hB3, hr3⟩
        case measure => simp [intOf]; omega
    · have e : k' = nFr c col.length := by
        rcases Nat.lt_or_ge k' (nFr c col.length) with x | x
        · exact absurd ((nFr_lt hc).1 x) hlt
        · omega
      subst e
      have hpb : nFr c col.length * c ≤ 1000000 := by
        rcases Nat.eq_zero_or_pos (nFr c col.length) with x | x
        · rw [x]; omega
        · have : (nFr c col.length - 1) * c < col.length := (nFr_lt hc).1 (by omega)
          have e2 : nFr c col.length * c = (nFr c col.length - 1) * c + c := by
            obtain ⟨k2, e3⟩ : ∃ k2, nFr c col.length = k2 + 1 := ⟨nFr c col.length - 1, by omega⟩
            rw [e3, Nat.add_sub_cancel, Nat.add_mul, Nat.one_mul]
          omega
      obtain ⟨L, eL⟩ : ∃ L, R1 ++ framesTo c col (nFr c col.length) = L := ⟨_, rfl⟩
      have EL : Hid (R1 ++ framesTo c col (nFr c col.length) = L) := eL
      rw [eL] at hO hLb
      obtain ⟨p, ep⟩ : ∃ p, nFr c col.length * c = p := ⟨_, rfl⟩
      rw [ep] at hlt hpb ⊢
      clear eL ep hby hba hk'
      go_wp2_with (first | (at_builtin; refine wpList_append_own _ rfl _ _ 24 rfl w.heap.size 5 i0 (.int .u8 0) 1 1 Tryd.underlying24 hi0 hz0 hz1 hz2 rfl (by decide) _ _ _ rfl (hO.alloc _) ⟨wr.heap.size, 0, none⟩ 4 4 (u8V [68, 79, 78, 69]) rfl rfl (cells_new4 _ _ _ _ _ _) (u8V_one _) (by unfold maxLen; omega) (by omega) (by simp; omega) ?_; intro v9 w9 hown9 hgrow9 _; have hO9 : OwnB w.heap.size w9 v9 (L ++ [68, 79, 78, 69]) := OwnB.more hown9 rfl; have hB9 := hB.trans (((Below.refl _ _).alloc hsW _).trans ((hO.alloc _).grown hgrow9 (by simp; omega)))))
      go_ret
      exact ⟨_, rfl, by rw [EL.out]; exact hO9, hB9⟩
end Go.Proofs.YtkpcmfgeanlcnaaDoor

/-
  What the program's appendHead leaves.
-/
import Derived.Test.YtkpcmfgeanlcnabDoorWrG
import Derived.Test.YtkpcmfgeanlcnabDoorWrE
import Derived.Test.YtkpcmfgeanlcnabDoorWrO
namespace Go.Proofs.YtkpcmfgeanlcnabDoor
open Go.RowKit Go.Deep

theorem cells_new4 (w : World) (a b c d : Value) (t : TypeId) : ∀ j u, [a, b, c, d][j]? = some u → (w.alloc (.cells #[a, b, c, d] t)).cell? ((⟨w.heap.size, 0, none⟩ : Addr).add j) = some u := by
  intro j u hj
  rw [add_off, Nat.zero_add]
  exact (RowAt.made w [a, b, c, d] t).cell hj
theorem cells_new2 (w : World) (a b : Value) (t : TypeId) : ∀ j u, [a, b][j]? = some u → (w.alloc (.cells #[a, b] t)).cell? ((⟨w.heap.size, 0, none⟩ : Addr).add j) = some u := by
  intro j u hj
  rw [add_off, Nat.zero_add]
  exact (RowAt.made w [a, b] t).cell hj
theorem u8_mod (k : Nat) (hk : k ≤ 255) : u8V [UInt8.ofNat k] = [.int .u8 (k : Int)] := by
  simp only [u8V, List.map_cons, List.map_nil]
  rw [UInt8.toNat_ofNat', Nat.mod_eq_of_lt (by omega)]

set_option maxHeartbeats 4000000 in
set_option maxRecDepth 100000 in
theorem appHead_any (B : Nat) (v0 : Value) (k n i c : Nat) (hk : k ≤ 255) (hn : n ≤ 255) (hi : i ≤ 255) (hc : c ≤ 65536) (vN vS : Value) (bc : Option Addr) (len cap : Nat) (hlen : len ≤ 1000000) (M : Int) (m : Nat) (hM : M = m) (hm : m ≤ 1000000) (w : World) (h0 : OwnB B w v0 []) (hB : B ≤ w.heap.size) (hT : Tab w) (hB0 : 0 < B) :
    Calls Tryd.prog 37 #[v0, .agg #[.int .i64 (k : Int), .int .i64 (n : Int), .int .i64 (i : Int), .int .i64 (c : Int), vN, vS, .slice bc len cap], .int .i64 M] w
      fun r w' => Gives B w (sealB ([67, 65, 73, 82, 78, 49] ++ ([UInt8.ofNat k, UInt8.ofNat n, UInt8.ofNat i, 0] ++ (leB 4 c ++ (leB 4 m ++ (leB 4 len ++ [0, 0])))))) r w' := by
  subst hM
  obtain ⟨i0, hi0, hz0, hz1, hz2⟩ := info_parts infoB8
  have hr0 := RowAt.made w [.int .i64 (k : Int), .int .i64 (n : Int), .int .i64 (i : Int), .int .i64 (c : Int), vN, vS, .slice bc len cap] 60
  have hOX := h0.alloc (.cells #[.int .i64 (k : Int), .int .i64 (n : Int), .int .i64 (i : Int), .int .i64 (c : Int), vN, vS, .slice bc len cap] 60)
  have hbX := (Below.refl B w).alloc hB (.cells #[.int .i64 (k : Int), .int .i64 (n : Int), .int .i64 (i : Int), .int .i64 (c : Int), vN, vS, .slice bc len cap] 60)
  have hkX := (KeepT.refl w).alloc (.cells #[.int .i64 (k : Int), .int .i64 (n : Int), .int .i64 (i : Int), .int .i64 (c : Int), vN, vS, .slice bc len cap] 60)
  obtain ⟨T, eT⟩ : ∃ T, sealB ([67, 65, 73, 82, 78, 49] ++ ([UInt8.ofNat k, UInt8.ofNat n, UInt8.ofNat i, 0] ++ (leB 4 c ++ (leB 4 m ++ (leB 4 len ++ [0, 0]))))) = T := ⟨_, rfl⟩
  have ET : Hid _ := eT
  rw [eT]
  clear eT
  have E4 : Hid (u8V [UInt8.ofNat k, UInt8.ofNat n, UInt8.ofNat i, 0] = [.int .u8 (k : Int), .int .u8 (n : Int), .int .u8 (i : Int), .int .u8 0]) := by
    show _ = _
    simp only [u8V, List.map_cons, List.map_nil, UInt8.toNat_ofNat']
    rw [Nat.mod_eq_of_lt (by omega), Nat.mod_eq_of_lt (by omega), Nat.mod_eq_of_lt (by omega)]
    rfl
  go_enter Tryd.func37, Tryd.ntmps37
  go_wp2_with (first
    | (at_builtin; refine Lib.wpList_append_own_string _ rfl _ _ 29 9 rfl B 5 i0 Tryd.underlying29 Tryd.underlying9 hi0 hz0 hz1 hz2 _ _ _ rfl hOX ⟨#[67, 65, 73, 82, 78, 49]⟩ rfl (by decide) (by decide) (by simp; omega) ?_; intro v1 w1 hown1 hgrow1 _; have hO1 : OwnB B w1 v1 ([] ++ [67, 65, 73, 82, 78, 49]) := OwnB.more hown1 rfl; have hk1 := hOX.keeps hgrow1; have hb1 := hOX.grown hgrow1 (by simp; omega); have hr1 := hr0.keep hk1 (by decide); have c0 := hr1.cell (i := 0) rfl; have c1 := hr1.cell (i := 1) rfl; have c2 := hr1.cell (i := 2) rfl; clear hown1 hgrow1 hOX hr0)
    | (at_builtin; refine wpList_append_own _ rfl _ _ 29 rfl B 5 i0 (.int .u8 0) 1 1 Tryd.underlying29 hi0 hz0 hz1 hz2 rfl (by decide) _ _ _ rfl (hO1.alloc _) ⟨w1.heap.size, 0, none⟩ 4 4 (u8V [UInt8.ofNat k, UInt8.ofNat n, UInt8.ofNat i, 0]) rfl rfl (by rw [E4.out]; exact cells_new4 _ _ _ _ _ _) (u8V_one _) (by decide) (by decide) (by have := hb1.size; simp at this ⊢; omega) ?_; intro v2 w2 hown2 hgrow2 _; have hO2 : OwnB B w2 v2 (([] ++ [67, 65, 73, 82, 78, 49]) ++ [UInt8.ofNat k, UInt8.ofNat n, UInt8.ofNat i, 0]) := OwnB.more hown2 rfl; have hs1 : B ≤ w1.heap.size := by have := hb1.size; (simp at this; omega)
       have hk2 : KeepT w1 w2 := ((KeepT.refl _).alloc _).trans ((hO1.alloc _).keeps hgrow2); have hb2 : Below B w1 w2 := ((Below.refl _ _).alloc hs1 _).trans ((hO1.alloc _).grown hgrow2 (by simp; omega)); have hr2 := hr1.keep hk2 (by decide); have c3 := hr2.cell (i := 3) rfl; have hs2 := hb2.size; have K2 := appNum_any (c : Int) 4 c 4 rfl (by omega) rfl (by omega) B v2 (([] ++ [67, 65, 73, 82, 78, 49]) ++ [UInt8.ofNat k, UInt8.ofNat n, UInt8.ofNat i, 0]) (by simp) w2 hO2 (by omega); clear hown2 hgrow2 c0 c1 c2 hO1 hO2 hr1)
    | (go_at_call 28; refine K2.mono ?_; clear K2; rintro r w3 ⟨v3, rfl, hO3, hb3, hk3⟩; have hs3 := hb3.size; have hr3 := hr2.keep hk3 (by decide); have K3 := appNum_any (m : Int) 4 m 4 rfl (by omega) rfl (by omega) B v3 ((([] ++ [67, 65, 73, 82, 78, 49]) ++ [UInt8.ofNat k, UInt8.ofNat n, UInt8.ofNat i, 0]) ++ leB 4 c) (by simp [leB_length]) w3 hO3 (by omega); clear hO3 hr2 c3)
    | (go_at_call 28; refine K3.mono ?_; clear K3; rintro r w4 ⟨v4, rfl, hO4, hb4, hk4⟩; have hs4 := hb4.size; have hr4 := hr3.keep hk4 (by decide); have c6 := hr4.cell (i := 6) rfl; have K4 := appNum_any (len : Int) 4 len 4 rfl (by omega) rfl (by omega) B v4 (((([] ++ [67, 65, 73, 82, 78, 49]) ++ [UInt8.ofNat k, UInt8.ofNat n, UInt8.ofNat i, 0]) ++ leB 4 c) ++ leB 4 m) (by simp [leB_length]) w4 hO4 (by omega); clear hO4 hr3 hr4)
    | (go_at_call 28; refine K4.mono ?_; clear K4; rintro r w5 ⟨v5, rfl, hO5, hb5, hk5⟩; have hs5 := hb5.size; clear c6)
    | (at_builtin; refine wpList_append_own _ rfl _ _ 29 rfl B 5 i0 (.int .u8 0) 1 1 Tryd.underlying29 hi0 hz0 hz1 hz2 rfl (by decide) _ _ _ rfl (hO5.alloc _) ⟨w5.heap.size, 0, none⟩ 2 2 (u8V [0, 0]) rfl rfl (cells_new2 _ _ _ _) (u8V_one _) (by simp [leB_length]; decide) (by simp [leB_length]) (by simp; omega) ?_; intro v6 w6 hown6 hgrow6 _; have hO6 : OwnB B w6 v6 (((((([] ++ [67, 65, 73, 82, 78, 49]) ++ [UInt8.ofNat k, UInt8.ofNat n, UInt8.ofNat i, 0]) ++ leB 4 c) ++ leB 4 m) ++ leB 4 len) ++ [0, 0]) := OwnB.more hown6 rfl; have hk6 : KeepT w5 w6 := ((KeepT.refl _).alloc _).trans ((hO5.alloc _).keeps hgrow6); have hb6 : Below B w5 w6 := ((Below.refl _ _).alloc (by omega) _).trans ((hO5.alloc _).grown hgrow6 (by simp; omega)); have hs6 := hb6.size
       have hb7 : Below B w w6 := hbX.trans (hb1.trans (hb2.trans (hb3.trans (hb4.trans (hb5.trans hb6))))); have hk7 : KeepT w w6 := hkX.trans (hk1.trans (hk2.trans (hk3.trans (hk4.trans (hk5.trans hk6))))); have K6 := appSum_self B v6 (((((([] ++ [67, 65, 73, 82, 78, 49]) ++ [UInt8.ofNat k, UInt8.ofNat n, UInt8.ofNat i, 0]) ++ leB 4 c) ++ leB 4 m) ++ leB 4 len) ++ [0, 0]) (by simp [leB_length]) (by simp) w6 hO6 (by omega) (hT.below hb7 hB0); clear hown6 hgrow6 hO5 hO6 hb1 hb2 hb3 hb4 hb5 hb6 hbX hk1 hk2 hk3 hk4 hk5 hk6 hkX)
    | (go_at_call 29; refine K6.mono ?_; clear K6; rintro r w8 ⟨v8, rfl, hO8, hb8, hk8⟩))
  go_ret
  refine ⟨_, rfl, ?_, hb7.trans hb8, hk7.trans hk8⟩
  rw [← ET.out]
  simpa [List.append_assoc] using hO8
end Go.Proofs.YtkpcmfgeanlcnabDoor

/-
  What the document's Written answers.
-/
namespace Go.Proofs.YtkpcmfgeanlcnabDoor
open Go.RowKit Go.Deep

theorem OwnB.made (w : World) (l : List UInt8) (hl : l.length ≤ maxLen) (cs : Array Value) (e : cs = (u8V l).toArray) (m : Nat) (hm : l.length = m) : OwnB w.heap.size (w.alloc (.cells cs 5)) (.slice (some ⟨w.heap.size, 0, none⟩) m m) l := by
  subst e hm
  refine ⟨by rw [u8V_length, Nat.mul_one], .inr ⟨w.heap.size, l.length, (u8V l).toArray, rfl, Nat.le_refl _, RowAt.made w (u8V l) 5, Nat.le_refl _, hl, by simp [u8V_length], ?_⟩⟩
  rw [Nat.mul_one]
  show (u8V l).take l.length = u8V l
  rw [← u8V_length l, List.take_length]
theorem frameB_len2 (c : Nat) (col : List UInt8) (k : Nat) : (frameB c col k).length ≤ c + 8 := by
  unfold frameB
  rw [sealB_length]
  have : (part col (k * c) (min c (col.length - k * c))).length ≤ min c (col.length - k * c) := by unfold part; exact List.length_take_le _ _
  omega
theorem framesTo_len2 (c : Nat) (col : List UInt8) : ∀ k, (framesTo c col k).length ≤ k * (c + 8)
  | 0 => by simp [framesTo]
  | k + 1 => by
    have h1 := framesTo_len2 c col k
    have h2 := frameB_len2 c col k
    rw [framesTo_succ, List.length_append, Nat.add_mul, Nat.one_mul]
    omega
theorem OwnB.base' {B B' : Nat} {w : World} {v : Value} {l : List UInt8} (h : OwnB B w v l) (hB : B' ≤ B) : OwnB B' w v l := by
  refine ⟨h.1, ?_⟩
  rcases h.2 with x | ⟨g, cap, cur, h1, h2, h3⟩
  · exact .inl x
  · exact .inr ⟨g, cap, cur, h1, Nat.le_trans hB h2, h3⟩

end Go.Proofs.YtkpcmfgeanlcnabDoor

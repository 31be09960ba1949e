/-
  What the document's Padding, Number and manifest answer.
-/
import Derived.Test.YtkpcmfgeanlcnaaDoorWrM
import Derived.Test.YtkpcmfgeanlcnaaDoorWrG
namespace Go.Proofs.YtkpcmfgeanlcnaaDoor
open Go.RowKit Go.Deep

/-- A byte that fills a column up and is not 0. -/
def PadBad (k i t : Nat) (col : List UInt8) : Prop := i < k ∧ ∃ m, m < col.length ∧ t ≤ i * lenC k t + m ∧ bAt col m ≠ 0
def PadTold (r : Ending) (p : Prop) : Prop := ∃ x : Int, r = .returned (.int .i64 x) ∧ -1 ≤ x ∧ x ≤ 9223372036854775807 ∧ (0 ≤ x ↔ p)

set_option maxHeartbeats 2000000 in
set_option maxRecDepth 100000 in
theorem padding_any (K I : Int) (k i : Nat) (hK : K = k) (hI : I = i) (hk : 1 ≤ k) (hk2 : k ≤ 255) (hi : i ≤ 255) (vS vC : Value) (zs : List Int) (hl : zs.length ≤ 9223372036854775807) (hz : SizesOk zs) (hz2 : ∀ i, zs.getD i 0 ≤ 9223372036854775807) (ht : tot zs ≤ 65536) (col : List UInt8) (hcl : col.length ≤ 65536) (w : World) (h : Lies w vS (intV zs)) (hC : Lies w vC (u8V col)) :
    Calls Tryd.prog 49 #[.int .i64 K, vS, .int .i64 I, vC] w fun r w' => w' = w ∧ PadTold r (PadBad k i (tot zs) col) := by
  have K1 := lengthI_any K k hK hk hk2 vS zs hl hz hz2 ht w h
  have K2 := totalI_any vS zs hl hz hz2 w h
  subst hK hI
  have e : totI zs = tot zs := by unfold totI; rw [if_pos ht]
  rw [e] at K2
  have hL := lenC_le hk (tot zs)
  obtain ⟨t, et⟩ : ∃ t, tot zs = t := ⟨_, rfl⟩
  rw [et] at K1 K2 ht hL ⊢
  obtain ⟨ba, cap, rfl, hcap, hc⟩ := hC
  rw [u8V_length] at hcap ⊢
  clear e et h hz hz2 hl
  have hPB : Hid (PadBad k i t col ↔ i < k ∧ ∃ m, m < col.length ∧ t ≤ i * lenC k t + m ∧ bAt col m ≠ 0) := Iff.rfl
  obtain ⟨L, eL⟩ : ∃ L, lenC k t = L := ⟨_, rfl⟩
  rw [eL] at K1 hL hPB
  obtain ⟨p, ep⟩ : ∃ p, i * L = p := ⟨_, rfl⟩
  have hp : p ≤ 255 * 65536 := by rw [← ep]; exact Nat.mul_le_mul hi (by omega)
  have hp2 : (i : Int) * (L : Int) = (p : Int) := by rw [← ep]; simp
  rw [ep] at hPB
  clear eL ep
  go_enter Tryd.func49, Tryd.ntmps49
  go_wp2_with (first | (go_at_call 43; refine K1.mono ?_; rintro r w' ⟨rfl, hw'⟩; obtain rfl := hw'.symm) | (go_at_call 65; refine K2.mono ?_; rintro r w' ⟨rfl, hw'⟩; obtain rfl := hw'.symm))
  clear K1 K2
  go_loop [11] (fun vi => ∃ c : Nat, c ≤ col.length ∧ vi = .int .i64 (c : Int) ∧ Hid (∀ m, m < c → t ≤ p + m → bAt col m = 0)) (fun i => col.length - (intOf i).toNat)
  case atStart => exact ⟨0, by omega, rfl, fun m hm => by omega⟩
  case round =>
    obtain ⟨c, hcl2, rfl, H⟩ := hrel
    by_cases hlt : c < col.length
    · by_cases hik : i < k
      · obtain ⟨b, off, rfl, hcell⟩ := hc c _ (u8V_get hlt)
        have hb := bAt_lt col c
        obtain ⟨y, ey⟩ : ∃ y, bAt col c = y := ⟨_, rfl⟩
        rw [ey] at hcell hb
        have HY : Hid (bAt col c = y) := ey
        clear ey hc
        by_cases hq : t ≤ p + c
        · by_cases hy : y = 0
          · subst hy
            have HN : Hid (∀ m, m < c + 1 → t ≤ p + m → bAt col m = 0) := fun m hm h2 => by
              rcases Nat.lt_or_ge m c with h1 | h1
              · exact H.out m h1 h2
              · obtain rfl : m = c := by omega
                exact HY.out
            clear H
            go_wp2
            go_round
            case rel => exact ⟨c + 1, by omega, by go_num, HN⟩
            case measure => simp [intOf]; omega
          · have hy' : ((y : Int) == 0) = false := by simp; omega
            have hy2 : ((y : Int) != 0) = true := by simp; omega
            have HB : Hid (PadBad k i t col) := hPB.out.2 ⟨hik, c, hlt, hq, by rw [HY.out]; exact hy⟩
            clear H hPB
            go_wp2
            go_ret
            exact ⟨rfl, _, rfl, by omega, by omega, by simp; exact HB.out⟩
        · have HN : Hid (∀ m, m < c + 1 → t ≤ p + m → bAt col m = 0) := fun m hm h2 => H.out m (by omega) h2
          clear H
          go_wp2
          go_round
          case rel => exact ⟨c + 1, by omega, by go_num, HN⟩
          case measure => simp [intOf]; omega
      · have HB : Hid (¬ PadBad k i t col) := fun hx => hik (hPB.out.1 hx).1
        clear H hPB hc
        go_wp2
        go_ret
        exact ⟨rfl, _, rfl, by omega, by omega, by simp; exact HB.out⟩
    · have HB : Hid (¬ PadBad k i t col) := fun hx => by
        obtain ⟨_, m, h1, h2, h3⟩ := hPB.out.1 hx
        exact h3 (H.out m (by omega) h2)
      clear H hPB hc
      go_wp2
      go_ret
      exact ⟨rfl, _, rfl, by omega, by omega, by simp; exact HB.out⟩

set_option maxHeartbeats 1600000 in
set_option maxRecDepth 100000 in
theorem number_any (X N : Int) (x n : Nat) (hX : X = x) (hx : x < 2 ^ 63) (hN : N = n) (hn : n ≤ 8) (w : World) :
    Calls Tryd.prog 70 #[.int .i64 X, .int .i64 N] w fun r w' => Gives w.heap.size w (leB n x) r w' := by
  subst hX hN
  obtain ⟨i0, hi0, hz0, hz1, hz2⟩ := info_parts infoB8
  go_enter Tryd.func70, Tryd.ntmps70
  go_wp2
  go_loopw [0, 5, 6] (fun vv v vi wr => ∃ c : Nat, c ≤ n ∧ vv = .int .i64 ((x / 256 ^ c : Nat) : Int) ∧ vi = .int .i64 (c : Int) ∧ wr.ownsRow w.heap.size 5 1 v c (u8V (leB c x)) ∧ Below w.heap.size w wr ∧ KeepT w wr) (fun _ _ i _ => n - (intOf i).toNat)
  case atStart => exact ⟨0, by omega, by simp, rfl, World.ownsRow_nil _ _ _ _, Below.refl _ _, KeepT.refl _⟩
  case round =>
    obtain ⟨c, hc, rfl, rfl, hown, hbel, hkt⟩ := hrel
    have hsz := hbel.size
    by_cases hlt : c < n
    · obtain ⟨y, ey⟩ : ∃ y, x / 256 ^ c = y := ⟨_, rfl⟩
      have hy : y < 2 ^ 63 := by rw [← ey]; exact Nat.lt_of_le_of_lt (Nat.div_le_self _ _) hx
      have EQ : Hid (u8V (leB c x) ++ [.int .u8 ((y % 256 : Nat) : Int)] = u8V (leB (c + 1) x)) := u8V_snoc _ (y % 256) (by omega) _ (by rw [leB_snoc, ey])
      have DV : Hid (y / 256 = x / 256 ^ (c + 1)) := by rw [← ey, Nat.div_div_eq_div_mul, Nat.pow_succ]; exact rfl
      rw [ey]
      clear ey hx
      go_wp2_with (at_builtin; refine wpList_append_own _ rfl _ _ 24 rfl w.heap.size 5 i0 (.int .u8 0) 1 1 Tryd.underlying24 hi0 hz0 hz1 hz2 rfl (by decide) _ _ _ rfl (hown.alloc _) ⟨wr.heap.size, 0, none⟩ 1 1 [.int .u8 ((y % 256 : Nat) : Int)] rfl rfl (cell_one_new _ _ _) (one_u8' _) (by unfold maxLen; omega) (by omega) (by simp; omega) ?_; intro v2 w2 hown2 hgrow _)
      have hb2 := (hbel.alloc (by omega) (.cells #[Value.int .u8 ((y % 256 : Nat) : Int)] 5)).grown hgrow (by simp; omega) (fun k hk => (hown.lt k hk).1)
      have hk2 : KeepT w w2 := (hkt.alloc _).trans (OwnB.keeps (OwnB.of (hown.alloc _)) hgrow)
      clear hgrow
      go_wp2
      go_roundw
      case rel => exact ⟨c + 1, by omega, by rw [← DV.out]; go_num, by go_num, by rw [← EQ.out]; exact hown2, hb2, hk2⟩
      case measure => simp [intOf]; omega
    · have e : c = n := by omega
      subst e
      go_wp2
      go_ret
      exact ⟨_, rfl, OwnB.of hown, hbel, hkt⟩
end Go.Proofs.YtkpcmfgeanlcnaaDoor

/-
  What the document's manifest answers.
-/
namespace Go.Proofs.YtkpcmfgeanlcnaaDoor
open Go.RowKit Go.Deep

/-- Two rows lie apart. -/
def Apt (u v : Value) : Prop := ∀ g, u.ownBlock = some g → v.ownBlock ≠ some g
theorem Apt.symm {u v : Value} (h : Apt u v) : Apt v u := fun g h1 h2 => h g h2 h1
theorem OwnB.bnd {B : Nat} {w : World} {v : Value} {l : List UInt8} (h : OwnB B w v l) (k : Nat) (hk : v.ownBlock = some k) : B ≤ k ∧ k < w.heap.size := World.ownsRow.lt h k hk
theorem Apt.new {B B' : Nat} {w w' : World} {u v : Value} {l l' : List UInt8} (h1 : OwnB B w u l) (h2 : OwnB B' w' v l') (hB : w.heap.size ≤ B') : Apt u v := fun g e1 e2 => by
  have a := (h1.bnd g e1).2
  have b := (h2.bnd g e2).1
  omega
theorem OwnB.below {B : Nat} {w w' : World} {v : Value} {l : List UInt8} (h : OwnB B w v l) (hb : Below w.heap.size w w') : OwnB B w' v l := by
  refine ⟨h.1, ?_⟩
  rcases h.2 with x | ⟨g, cap, cur, h1, h2, h3, h4⟩
  · exact .inl x
  · exact .inr ⟨g, cap, cur, h1, h2, (hb.block g (Array.getElem?_eq_some_iff.1 h3).1).trans h3, h4⟩
theorem OwnB.step {B : Nat} {w w' : World} {u v v' : Value} {l : List UInt8} (h : OwnB B w u l) (ha : Apt u v) (hg : w.grownBy w' v.ownBlock) (hb : v'.ownBlock = v.ownBlock ∨ v'.ownBlock = some w.heap.size) : OwnB B w' u l ∧ Apt u v' := by
  refine ⟨?_, fun g e1 e2 => ?_⟩
  · refine ⟨h.1, ?_⟩
    rcases h.2 with x | ⟨g, cap, cur, rfl, h2, h3, h4⟩
    · exact .inl x
    · exact .inr ⟨g, cap, cur, rfl, h2, (hg.block g (Array.getElem?_eq_some_iff.1 h3).1 (fun e => ha g rfl e.symm)).trans h3, h4⟩
  · rcases hb with x | x
    · exact ha g e1 (x.symm.trans e2)
    · have := (h.bnd g e1).2
      rw [x] at e2
      cases e2
      omega
theorem OwnB.kept {B : Nat} {w w' : World} {u v : Value} {l : List UInt8} (h : OwnB B w u l) (ha : Apt u v) (hg : w.grownBy w' v.ownBlock) : OwnB B w' u l :=
  (h.step (v' := v) ha hg (.inl rfl)).1

set_option maxHeartbeats 4000000 in
set_option maxRecDepth 100000 in
theorem rmanifest_any (vN vS : Value) (ns : List (List UInt8)) (zs : List Int) (hok : ListOk ns zs) (hn : ns.length ≤ 1000) (ht : tot zs ≤ 65536) (w : World) (h1 : Lies w vN (nameV ns)) (h2 : Lies w vS (intV zs)) :
    Calls Tryd.prog 69 #[vN, vS] w fun r w' => ∃ v, r = .returned v ∧ OwnB w.heap.size w' v (manTo ns zs ns.length) ∧ Below w.heap.size w w' := by
  obtain ⟨i0, hi0, hz0, hz1, hz2⟩ := info_parts infoB8
  have K0 := number_any (ns.length : Int) 4 ns.length 4 rfl (by omega) rfl (by omega) w
  obtain ⟨ba, cap, rfl, hcap, hc⟩ := id h1
  obtain ⟨bz, capz, rfl, hcapz, hcz⟩ := id h2
  rw [nameV_length] at hcap ⊢
  rw [intV_length] at hcapz ⊢
  have hlen : Hid (ns.length = zs.length) := hok.1
  have HK : Hid (ListOk ns zs) := hok
  clear h1 h2 hok
  go_enter Tryd.func69, Tryd.ntmps69
  go_wp2_with (first | (go_at_call 70; refine K0.mono ?_; rintro r w1 ⟨v1, rfl, hO1, hb1, hk1⟩))
  clear K0
  go_loopw [5, 6, 7, 8] (fun v vi _ _ wr => ∃ c : Nat, c ≤ ns.length ∧ vi = .int .i64 (c : Int) ∧ OwnB w.heap.size wr v (manTo ns zs c) ∧ Below w.heap.size w wr) (fun _ i _ _ _ => ns.length - (intOf i).toNat)
  case atStart => exact ⟨0, by omega, rfl, by simpa [manTo] using hO1, hb1⟩
  case round =>
    obtain ⟨c, hcl, rfl, hown, hbel⟩ := hrel
    clear hO1 hb1 hk1
    have hsz := hbel.size
    by_cases hlt : c < ns.length
    · obtain ⟨b, off, rfl, hcell⟩ := hc c _ (nameV_at hlt)
      obtain ⟨b2, off2, rfl, hcell2⟩ := hcz c _ (intV_at (by have := hlen.out; omega))
      have hl1 : (manTo ns zs c).length ≤ 1000000 := by
        have := manNto_le ns HK.out.2.1 c (by omega)
        rw [manTo_len]; omega
      have hsc := (HK.out.2.1 c hlt).1
      have hzc := HK.out.2.2 c (by have := hlen.out; omega)
      have hz3 : (zs.getD c 0).toNat ≤ 65536 := by
        have := totTo_le zs (i := c + 1) (by have := hlen.out; omega)
        rw [totTo_succ] at this
        omega
      have MS : Hid _ := manTo_succ ns zs c
      obtain ⟨s, es⟩ : ∃ s, ns.getD c [] = s := ⟨_, rfl⟩
      obtain ⟨z, ez⟩ : ∃ z : Nat, zs.getD c 0 = (z : Int) := ⟨(zs.getD c 0).toNat, by omega⟩
      obtain ⟨M, eM⟩ : ∃ M, manTo ns zs c = M := ⟨_, rfl⟩
      rw [es] at hcell hsc MS
      rw [ez] at hcell2 hz3 MS
      rw [eM] at hl1 MS hown
      rw [Int.toNat_natCast] at hz3 MS
      have hc1 : ∀ w', Below w.heap.size wr w' → w'.cell? ⟨b, off + c, none⟩ = some (.string ⟨s.toArray⟩) := fun w' hb => (hb.cell (p := ⟨b, off + c, none⟩) (cell_lt hcell)).trans ((hbel.cell (p := ⟨b, off + c, none⟩) (cell_lt hcell)).trans hcell)
      have hcz2 : ∀ w', Below w.heap.size wr w' → w'.cell? ⟨b2, off2 + c, none⟩ = some (.int .i64 (z : Int)) := fun w' hb => (hb.cell (p := ⟨b2, off2 + c, none⟩) (cell_lt hcell2)).trans ((hbel.cell (p := ⟨b2, off2 + c, none⟩) (cell_lt hcell2)).trans hcell2)
      have hcw := hc1 wr (Below.refl _ _)
      have hbs := ba_size s
      have K1 := number_any (s.length : Int) 2 s.length 2 rfl (by omega) rfl (by omega) wr
      have hlb : (c : Int) < (zs.length : Int) := by have := hlen.out; omega
      clear es ez eM hcell hcell2 hzc hc hcz ht
      go_wp2_with (first
        | (go_at_call 70; refine K1.mono ?_; clear K1; rintro r w2 ⟨v2, rfl, hO2, hb2, _⟩; have hs2 := hb2.size; have d2 := hcz2 _ (hb2.mono (by omega)); have K2 := number_any (z : Int) 4 z 4 rfl (by omega) rfl (by omega) w2; have hM2 := hown.below hb2)
        | (go_at_call 70; refine K2.mono ?_; clear K2; rintro r w3 ⟨v3, rfl, hO3, hb3, _⟩; have hs3 := hb3.size; have hA3 := hO2.below hb3; have hM3 := hM2.below hb3; have hap := Apt.symm (Apt.new hM2 hO3 (Nat.le_refl _)); obtain ⟨ga, ca, ea, _, _, _, _, hya⟩ := owns_byt hA3 (by simp [leB_length]); rw [leB_length] at ea; subst ea; have hb23 : Below w.heap.size wr w3 := (hb2.mono (by omega)).trans (hb3.mono (by omega)))
        | (at_builtin; refine wpList_append_own_at _ rfl _ _ 24 rfl w.heap.size 5 i0 (.int .u8 0) 1 1 Tryd.underlying24 hi0 hz0 hz1 hz2 rfl (by decide) _ _ _ rfl hM3 ⟨ga, 0, none⟩ 2 ca (u8V (leB 2 s.length)) rfl (by rw [u8V_length, leB_length]) hya.news (u8V_one _) (by unfold maxLen; omega) (by omega) (by omega) ?_; intro v4 w4 hown4 hgrow4 _ hblk4; have hO4 : OwnB w.heap.size w4 v4 (M ++ leB 2 s.length) := OwnB.more hown4 rfl; obtain ⟨hN4, hap4⟩ := hO3.step hap hgrow4 hblk4; have hb4 : Below w.heap.size wr w4 := hb23.trans (hM3.grown hgrow4 (by omega)); have d4 := hc1 _ hb4; have hs4 := hb4.size; clear hown4 hgrow4 hblk4 hM3 hA3 hya hM2 hO2 hO3)
        | (at_builtin; refine Lib.wpList_append_own_string _ rfl _ _ 24 9 rfl w.heap.size 5 i0 Tryd.underlying24 Tryd.underlying9 hi0 hz0 hz1 hz2 _ _ _ rfl hO4 ⟨s.toArray⟩ rfl (by rw [hbs]; simp [leB_length]; unfold maxLen; omega) (by rw [hbs]; simp [leB_length]; omega) (by omega) ?_; intro v5 w5 hown5 hgrow5 _; have hO5 : OwnB w.heap.size w5 v5 (M ++ leB 2 s.length ++ s) := OwnB.more hown5 (strCells_u8V s); have hN5 := hN4.kept hap4 hgrow5; have hb5 : Below w.heap.size wr w5 := hb4.trans (hO4.grown hgrow5 (by omega)); have hs5 := hb5.size; obtain ⟨gb, cb, eb, _, _, _, _, hyb⟩ := owns_byt hN5 (by simp [leB_length]); rw [leB_length] at eb; subst eb; clear hown5 hgrow5 hO4 hN4 hN5)
        | (at_builtin; refine wpList_append_own _ rfl _ _ 24 rfl w.heap.size 5 i0 (.int .u8 0) 1 1 Tryd.underlying24 hi0 hz0 hz1 hz2 rfl (by decide) _ _ _ rfl hO5 ⟨gb, 0, none⟩ 4 cb (u8V (leB 4 z)) rfl (by rw [u8V_length, leB_length]) hyb.news (u8V_one _) (by simp [leB_length]; unfold maxLen; omega) (by simp [leB_length]; omega) (by omega) ?_; intro v6 w6 hown6 hgrow6 _; have hO6 : OwnB w.heap.size w6 v6 (M ++ leB 2 s.length ++ s ++ leB 4 z) := OwnB.more hown6 rfl; have hb6 : Below w.heap.size wr w6 := hb5.trans (hO5.grown hgrow6 (by omega)); clear hown6 hgrow6 hO5 hyb))
      go_roundw
      case rel => exact ⟨c + 1, by omega, by go_num, by rw [MS.out]; exact hO6, hbel.trans hb6⟩
      case measure => simp [intOf]; omega
    · obtain rfl : c = ns.length := by omega
      clear hc hcz
      go_wp2
      go_ret
      exact ⟨_, rfl, hown, hbel⟩
end Go.Proofs.YtkpcmfgeanlcnaaDoor

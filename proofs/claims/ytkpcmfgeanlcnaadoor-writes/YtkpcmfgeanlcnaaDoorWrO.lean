/-
  What the document's manifest answers.
-/
import Derived.Test.YtkpcmfgeanlcnaaDoorWrN
namespace Go.Proofs.YtkpcmfgeanlcnaaDoor
open Go.RowKit Go.Deep

/-- Two rows lie apart. -/
def Apt (u v : Value) : Prop := ∀ g, u.ownBlock = some g → v.ownBlock ≠ some g
theorem Apt.symm {u v : Value} (h : Apt u v) : Apt v u := fun g h1 h2 => h g h2 h1
theorem OwnB.bnd {B : Nat} {w : World} {v : Value} {l : List UInt8} (h : OwnB B w v l) (k : Nat) (hk : v.ownBlock = some k) : B ≤ k ∧ k < w.heap.size := World.ownsRow.lt h k hk
theorem Apt.new {B B' : Nat} {w w' : World} {u v : Value} {l l' : List UInt8} (h1 : OwnB B w u l) (h2 : OwnB B' w' v l') (hB : w.heap.size ≤ B') : Apt u v := fun g e1 e2 => by
  have a := (h1.bnd g e1).2
  have b := (h2.bnd g e2).1
  omega
theorem OwnB.below {B : Nat} {w w' : World} {v : Value} {l : List UInt8} (h : OwnB B w v l) (hb : Below w.heap.size w w') : OwnB B w' v l := by
  refine ⟨h.1, ?_⟩
  rcases h.2 with x | ⟨g, cap, cur, h1, h2, h3, h4⟩
  · exact .inl x
  · exact .inr ⟨g, cap, cur, h1, h2, (hb.block g (Array.getElem?_eq_some_iff.1 h3).1).trans h3, h4⟩
theorem OwnB.step {B : Nat} {w w' : World} {u v v' : Value} {l : List UInt8} (h : OwnB B w u l) (ha : Apt u v) (hg : w.grownBy w' v.ownBlock) (hb : v'.ownBlock = v.ownBlock ∨ v'.ownBlock = some w.heap.size) : OwnB B w' u l ∧ Apt u v' := by
  refine ⟨?_, fun g e1 e2 => ?_⟩
  · refine ⟨h.1, ?_⟩
    rcases h.2 with x | ⟨g, cap, cur, rfl, h2, h3, h4⟩
    · exact .inl x
    · exact .inr ⟨g, cap, cur, rfl, h2, (hg.block g (Array.getElem?_eq_some_iff.1 h3).1 (fun e => ha g rfl e.symm)).trans h3, h4⟩
  · rcases hb with x | x
    · exact ha g e1 (x.symm.trans e2)
    · have := (h.bnd g e1).2
      rw [x] at e2
      cases e2
      omega
theorem OwnB.kept {B : Nat} {w w' : World} {u v : Value} {l : List UInt8} (h : OwnB B w u l) (ha : Apt u v) (hg : w.grownBy w' v.ownBlock) : OwnB B w' u l :=
  (h.step (v' := v) ha hg (.inl rfl)).1

set_option maxHeartbeats 4000000 in
set_option maxRecDepth 100000 in
theorem rmanifest_any (vN vS : Value) (ns : List (List UInt8)) (zs : List Int) (hok : ListOk ns zs) (hn : ns.length ≤ 1000) (ht : tot zs ≤ 65536) (w : World) (h1 : Lies w vN (nameV ns)) (h2 : Lies w vS (intV zs)) :
    Calls Tryd.prog 69 #[vN, vS] w fun r w' => ∃ v, r = .returned v ∧ OwnB w.heap.size w' v (manTo ns zs ns.length) ∧ Below w.heap.size w w' := by
  obtain ⟨i0, hi0, hz0, hz1, hz2⟩ := info_parts infoB8
  have K0 := number_any (ns.length : Int) 4 ns.length 4 rfl (by omega) rfl (by omega) w
  obtain ⟨ba, cap, rfl, hcap, hc⟩ := id h1
  obtain ⟨bz, capz, rfl, hcapz, hcz⟩ := id h2
  rw [nameV_length] at hcap ⊢
  rw [intV_length] at hcapz ⊢
  have hlen : Hid (ns.length = zs.length) := hok.1
  have HK : Hid (ListOk ns zs) := hok
  clear h1 h2 hok
  go_enter Tryd.func69, Tryd.ntmps69
  go_wp2_with (first | (go_at_call 70; refine K0.mono ?_; rintro r w1 ⟨v1, rfl, hO1, hb1, hk1⟩))
  clear K0
  go_loopw [5, 6, 7, 8] (fun v vi _ _ wr => ∃ c : Nat, c ≤ ns.length ∧ vi = .int .i64 (c : Int) ∧ OwnB w.heap.size wr v (manTo ns zs c) ∧ Below w.heap.size w wr) (fun _ i _ _ _ => ns.length - (intOf i).toNat)
  case atStart => exact ⟨0, by omega, rfl, by simpa [manTo] using hO1, hb1⟩
  case round =>
    obtain ⟨c, hcl, rfl, hown, hbel⟩ := hrel
    clear hO1 hb1 hk1
    have hsz := hbel.size
    by_cases hlt : c < ns.length
    · obtain ⟨b, off, rfl, hcell⟩ := hc c _ (nameV_at hlt)
      obtain ⟨b2, off2, rfl, hcell2⟩ := hcz c _ (intV_at (by have := hlen.out; omega))
      have hl1 : (manTo ns zs c).length ≤ 1000000 := by
        have := manNto_le ns HK.out.2.1 c (by omega)
        rw [manTo_len]; omega
      have hsc := (HK.out.2.1 c hlt).1
      have hzc := HK.out.2.2 c (by have := hlen.out; omega)
      have hz3 : (zs.getD c 0).toNat ≤ 65536 := by
        have := totTo_le zs (i := c + 1) (by have := hlen.out; omega)
        rw [totTo_succ] at this
        omega
      have MS : Hid _ := manTo_succ ns zs c
      obtain ⟨s, es⟩ : ∃ s, ns.getD c [] = s := ⟨_, rfl⟩
      obtain ⟨z, ez⟩ : ∃ z : Nat, zs.getD c 0 = (z : Int) := ⟨(zs.getD c 0).toNat, by omega⟩
      obtain ⟨M, eM⟩ : ∃ M, manTo ns zs c = M := ⟨_, rfl⟩
      rw [es] at hcell hsc MS
      rw [ez] at hcell2 hz3 MS
      rw [eM] at hl1 MS hown
      rw [Int.toNat_natCast] at hz3 MS
      have hc1 : ∀ w', Below w.heap.size wr w' → w'.cell? ⟨b, off + c, none⟩ = some (.string ⟨s.toArray⟩) := fun w' hb => (hb.cell (p := ⟨b, off + c, none⟩) (cell_lt hcell)).trans ((hbel.cell (p := ⟨b, off + c, none⟩) (cell_lt hcell)).trans hcell)
      have hcz2 : ∀ w', Below w.heap.size wr w' → w'.cell? ⟨b2, off2 + c, none⟩ = some (.int .i64 (z : Int)) := fun w' hb => (hb.cell (p := ⟨b2, off2 + c, none⟩) (cell_lt hcell2)).trans ((hbel.cell (p := ⟨b2, off2 + c, none⟩) (cell_lt hcell2)).trans hcell2)
      have hcw := hc1 wr (Below.refl _ _)
      have hbs := ba_size s
      have K1 := number_any (s.length : Int) 2 s.length 2 rfl (by omega) rfl (by omega) wr
      have hlb : (c : Int) < (zs.length : Int) := by have := hlen.out; omega
      clear es ez eM hcell hcell2 hzc hc hcz ht
      go_wp2_with (first
        | (go_at_call 70; refine K1.mono ?_; clear K1; rintro r w2 ⟨v2, rfl, hO2, hb2, _⟩; have hs2 := hb2.size; have d2 := hcz2 _ (hb2.mono (by omega)); have K2 := number_any (z : Int) 4 z 4 rfl (by omega) rfl (by omega) w2; have hM2 := hown.below hb2)
        | (go_at_call 70; refine K2.mono ?_; clear K2; rintro r w3 ⟨v3, rfl, hO3, hb3, _⟩; have hs3 := hb3.size; have hA3 := hO2.below hb3; have hM3 := hM2.below hb3; have hap := Apt.symm (Apt.new hM2 hO3 (Nat.le_refl _)); obtain ⟨ga, ca, ea, _, _, _, _, hya⟩ := owns_byt hA3 (by simp [leB_length]); rw [leB_length] at ea; subst ea; have hb23 : Below w.heap.size wr w3 := (hb2.mono (by omega)).trans (hb3.mono (by omega)))
        | (at_builtin; refine wpList_append_own_at _ rfl _ _ 24 rfl w.heap.size 5 i0 (.int .u8 0) 1 1 Tryd.underlying24 hi0 hz0 hz1 hz2 rfl (by decide) _ _ _ rfl hM3 ⟨ga, 0, none⟩ 2 ca (u8V (leB 2 s.length)) rfl (by rw [u8V_length, leB_length]) hya.news (u8V_one _) (by unfold maxLen; omega) (by omega) (by omega) ?_; intro v4 w4 hown4 hgrow4 _ hblk4; have hO4 : OwnB w.heap.size w4 v4 (M ++ leB 2 s.length) := OwnB.more hown4 rfl; obtain ⟨hN4, hap4⟩ := hO3.step hap hgrow4 hblk4; have hb4 : Below w.heap.size wr w4 := hb23.trans (hM3.grown hgrow4 (by omega)); have d4 := hc1 _ hb4; have hs4 := hb4.size; clear hown4 hgrow4 hblk4 hM3 hA3 hya hM2 hO2 hO3)
        | (at_builtin; refine Lib.wpList_append_own_string _ rfl _ _ 24 9 rfl w.heap.size 5 i0 Tryd.underlying24 Tryd.underlying9 hi0 hz0 hz1 hz2 _ _ _ rfl hO4 ⟨s.toArray⟩ rfl (by rw [hbs]; simp [leB_length]; unfold maxLen; omega) (by rw [hbs]; simp [leB_length]; omega) (by omega) ?_; intro v5 w5 hown5 hgrow5 _; have hO5 : OwnB w.heap.size w5 v5 (M ++ leB 2 s.length ++ s) := OwnB.more hown5 (strCells_u8V s); have hN5 := hN4.kept hap4 hgrow5; have hb5 : Below w.heap.size wr w5 := hb4.trans (hO4.grown hgrow5 (by omega)); have hs5 := hb5.size; obtain ⟨gb, cb, eb, _, _, _, _, hyb⟩ := owns_byt hN5 (by simp [leB_length]); rw [leB_length] at eb; subst eb; clear hown5 hgrow5 hO4 hN4 hN5)
        | (at_builtin; refine wpList_append_own _ rfl _ _ 24 rfl w.heap.size 5 i0 (.int .u8 0) 1 1 Tryd.underlying24 hi0 hz0 hz1 hz2 rfl (by decide) _ _ _ rfl hO5 ⟨gb, 0, none⟩ 4 cb (u8V (leB 4 z)) rfl (by rw [u8V_length, leB_length]) hyb.news (u8V_one _) (by simp [leB_length]; unfold maxLen; omega) (by simp [leB_length]; omega) (by omega) ?_; intro v6 w6 hown6 hgrow6 _; have hO6 : OwnB w.heap.size w6 v6 (M ++ leB 2 s.length ++ s ++ leB 4 z) := OwnB.more hown6 rfl; have hb6 : Below w.heap.size wr w6 := hb5.trans (hO5.grown hgrow6 (by omega)); clear hown6 hgrow6 hO5 hyb))
      go_roundw
      case rel => exact ⟨c + 1, by omega, by go_num, by rw [MS.out]; exact hO6, hbel.trans hb6⟩
      case measure => simp [intOf]; omega
    · obtain rfl : c = ns.length := by omega
      clear hc hcz
      go_wp2
      go_ret
      exact ⟨_, rfl, hown, hbel⟩
end Go.Proofs.YtkpcmfgeanlcnaaDoor

/-
  What the program's calls that put bytes behind a list leave.
-/
import Derived.Test.YtkpcmfgeanlcnabDoorWrC
import Derived.Laws.MakeOwn
namespace Go.Proofs.YtkpcmfgeanlcnabDoor
open Go.RowKit Go.Deep

/-- A list of bytes of one's own. -/
def OwnB (B : Nat) (w : World) (v : Value) (l : List UInt8) : Prop := w.ownsRow B 5 1 v l.length (u8V l)
theorem OwnB.of {B n : Nat} {w : World} {v : Value} {l : List UInt8} (h : w.ownsRow B 5 1 v n (u8V l)) : OwnB B w v l := by
  have : n = l.length := by have := h.1; rw [u8V_length] at this; omega
  subst this; exact h
theorem OwnB.alloc {B : Nat} {w : World} {v : Value} {l : List UInt8} (h : OwnB B w v l) (o : Obj) : OwnB B (w.alloc o) v l := World.ownsRow.alloc h o
/-- It is no row of bytes. -/
def noBytes : Obj → Bool
  | .cells _ t _ => t != 5
  | _ => true
/-- What is no row of bytes lies as it lay. -/
structure KeepT (w w' : World) : Prop where
  size : w.heap.size ≤ w'.heap.size
  same : ∀ (k : Nat) (o : Obj), w.heap[k]? = some o → noBytes o = true → w'.heap[k]? = some o
theorem KeepT.refl (w : World) : KeepT w w := ⟨Nat.le_refl _, fun _ _ h _ => h⟩
theorem KeepT.trans {a b c : World} (h : KeepT a b) (k : KeepT b c) : KeepT a c := ⟨Nat.le_trans h.size k.size, fun i o hh ht => k.same i o (h.same i o hh ht) ht⟩
theorem KeepT.alloc {a w : World} (h : KeepT a w) (o : Obj) : KeepT a (w.alloc o) := h.trans ⟨by simp, fun k o' hh _ => by
  have hk : k < w.heap.size := (Array.getElem?_eq_some_iff.1 hh).1
  exact (Below.heap_alloc w o k hk).trans hh⟩
theorem OwnB.keeps {B : Nat} {w w' : World} {v : Value} {l : List UInt8} (h : OwnB B w v l) (hg : w.grownBy w' v.ownBlock) : KeepT w w' := ⟨hg.size, fun k o hh ht => by
  have hk : k < w.heap.size := (Array.getElem?_eq_some_iff.1 hh).1
  rw [hg.block k hk ?_]
  · exact hh
  · intro e
    rcases h.2 with ⟨rfl, _⟩ | ⟨g, cap, cur, rfl, _, hb, _⟩
    · cases e
    · cases e
      rw [hb] at hh
      cases hh
      simp [noBytes] at ht⟩
theorem RowAt.keep {w w' : World} {b : Nat} {cs : List Value} {t : TypeId} (h : RowAt w b cs t) (hk : KeepT w w') (ht : t ≠ 5) : RowAt w' b cs t := hk.same b _ h (by simpa [noBytes] using ht)
/-- What is answered is a list of one's own with these bytes; what lay below B lies as it lay. -/
def Gives (B : Nat) (w : World) (l : List UInt8) (r : Ending) (w' : World) : Prop := ∃ v, r = .returned v ∧ OwnB B w' v l ∧ Below B w w' ∧ KeepT w w'

set_option maxHeartbeats 1600000 in
set_option maxRecDepth 100000 in
theorem appNum_any (X N : Int) (x n : Nat) (hX : X = x) (hx : x < 2 ^ 64) (hN : N = n) (hn : n ≤ 8) (B : Nat) (v0 : Value) (l : List UInt8) (hl : l.length < 2 ^ 40) (w : World) (h0 : OwnB B w v0 l) (hB : B ≤ w.heap.size) :
    Calls Tryd.prog 28 #[v0, .int .u64 X, .int .i64 N] w fun r w' => Gives B w (l ++ leB n x) r w' := by
  subst hX hN
  obtain ⟨i0, hi0, hz0, hz1, hz2⟩ := info_parts infoB8
  go_enter Tryd.func28, Tryd.ntmps28
  go_wp2
  go_loopw [0, 1, 8] (fun v vv vi wr => ∃ c : Nat, c ≤ n ∧ vv = .int .u64 ((x / 256 ^ c : Nat) : Int) ∧ vi = .int .i64 (c : Int) ∧ wr.ownsRow B 5 1 v (l.length + c) (u8V (l ++ leB c x)) ∧ Below B w wr ∧ KeepT w wr) (fun _ _ i _ => n - (intOf i).toNat)
  case atStart => exact ⟨0, by omega, by simp, rfl, by have := h0; unfold OwnB at this; simpa [leB] using this, Below.refl _ _, KeepT.refl _⟩
  case round =>
    obtain ⟨c, hc, rfl, rfl, hown, hbel, hkt⟩ := hrel
    clear h0
    have hsz := hbel.size
    by_cases hlt : c < n
    · obtain ⟨y, ey⟩ : ∃ y, x / 256 ^ c = y := ⟨_, rfl⟩
      have hy : y < 2 ^ 64 := by rw [← ey]; exact Nat.lt_of_le_of_lt (Nat.div_le_self _ _) hx
      have EQ : Hid (u8V (l ++ leB c x) ++ [.int .u8 ((y % 256 : Nat) : Int)] = u8V (l ++ leB (c + 1) x)) := u8V_snoc _ (y % 256) (by omega) _ (by rw [leB_snoc, ey, List.append_assoc])
      have DV : Hid (y / 256 = x / 256 ^ (c + 1)) := by rw [← ey, Nat.div_div_eq_div_mul, Nat.pow_succ]; exact rfl
      rw [ey]
      clear ey hx
      go_wp2_with (at_builtin; refine wpList_append_own _ rfl _ _ 29 rfl B 5 i0 (.int .u8 0) 1 1 Tryd.underlying29 hi0 hz0 hz1 hz2 rfl (by decide) _ _ _ rfl (hown.alloc _) ⟨wr.heap.size, 0, none⟩ 1 1 [.int .u8 ((y % 256 : Nat) : Int)] rfl rfl (cell_one_new _ _ _) (one_u8' _) (by unfold maxLen; omega) (by omega) (by simp; omega) ?_; intro v2 w2 hown2 hgrow _)
      have hb2 := (hbel.alloc (by omega) (.cells #[Value.int .u8 ((y % 256 : Nat) : Int)] 5)).grown hgrow (by simp; omega) (fun k hk => (hown.lt k hk).1)
      have hk2 : KeepT w w2 := (hkt.alloc _).trans (OwnB.keeps (OwnB.of (hown.alloc _)) hgrow)
      clear hgrow
      go_wp2
      go_roundw
      case rel => exact ⟨c + 1, by omega, by rw [← DV.out]; go_num, by go_num, by rw [← EQ.out]; exact hown2, hb2, hk2⟩
      case measure => simp [intOf]; omega
    · have e : c = n := by omega
      subst e
      go_wp2
      go_ret
      exact ⟨_, rfl, OwnB.of hown, hbel, hkt⟩

/-- The table of the sum stands as it is laid. -/
def Tab (w : World) : Prop := 0 < w.heap.size ∧ ∀ i, i < 16 → w.cell? ⟨0, i, none⟩ = some (.int .u64 ((crcTab.getD i 0 : Nat) : Int))
theorem Tab.below {w w' : World} {B : Nat} (h : Tab w) (hb : Below B w w') (hB : 0 < B) : Tab w' :=
  ⟨Nat.lt_of_lt_of_le h.1 hb.size, fun i hi => (hb.cell (p := ⟨0, i, none⟩) hB).trans (h.2 i hi)⟩
theorem Tab.heap {w w' : World} (h : Tab w) (hh : w'.heap = w.heap) : Tab w' := by
  refine ⟨by rw [hh]; exact h.1, fun i hi => ?_⟩
  have := h.2 i hi
  unfold World.cell? at *
  rw [hh]; exact this
theorem sumOf_any (bb bo cap : Nat) (l : List UInt8) (hl : l.length < 2 ^ 60) (w : World) (hb : Byt w bb bo l) (ht : Tab w) :
    Calls Tryd.prog 41 #[.slice (some ⟨bb, bo, none⟩) l.length cap] w fun e w' => e = .returned (.int .u64 (sumOf l : Nat)) ∧ w' = w :=
  sum_row bb bo l.length cap (l.map UInt8.toNat) (by simp) (fun i _ => by rw [map_getD]; exact bAt_lt l i) (by omega) w (fun i hi => by rw [map_getD]; exact hb i hi) ht.2

set_option maxHeartbeats 1600000 in
set_option maxRecDepth 100000 in
theorem appSum_any (B : Nat) (v0 : Value) (l : List UInt8) (hl : l.length < 2 ^ 40) (w : World) (h0 : OwnB B w v0 l) (hB : B ≤ w.heap.size) (bb bo cap : Nat) (p : List UInt8) (hp : p.length < 2 ^ 60) (hb : Byt w bb bo p) (ht : Tab w) :
    Calls Tryd.prog 29 #[v0, .slice (some ⟨bb, bo, none⟩) p.length cap] w fun r w' => Gives B w (l ++ leB 8 (sumOf p)) r w' := by
  have K1 := sumOf_any bb bo cap p hp w hb ht
  have hs := sumOf_lt p
  obtain ⟨s, es⟩ : ∃ s, sumOf p = s := ⟨_, rfl⟩
  rw [es] at K1 hs ⊢
  have K2 := appNum_any (s : Int) 8 s 8 rfl hs rfl (by omega) B v0 l hl w h0 hB
  clear h0 hb ht es
  go_enter Tryd.func29, Tryd.ntmps29
  go_wp2_with (first | (go_at_call 41; refine K1.mono ?_; rintro r w' ⟨rfl, hw'⟩; obtain rfl := hw'.symm) | (go_at_call 28; refine K2.mono ?_; rintro r w' ⟨v, rfl, h1, h2, h3⟩))
  go_ret
  exact ⟨_, rfl, h1, h2, h3⟩
/-- .. of the whole list. -/
theorem appSum_self (B : Nat) (v0 : Value) (l : List UInt8) (hl : l.length < 2 ^ 40) (hp : 0 < l.length) (w : World) (h0 : OwnB B w v0 l) (hB : B ≤ w.heap.size) (ht : Tab w) :
    Calls Tryd.prog 29 #[v0, v0] w fun r w' => Gives B w (sealB l) r w' := by
  obtain ⟨g, c, e, _, _, _, _, hb⟩ := owns_byt h0 hp
  have K := appSum_any B v0 l hl w h0 hB g 0 c l (by omega) hb ht
  rw [← e] at K
  exact K
end Go.Proofs.YtkpcmfgeanlcnabDoor

/-
  What the program's Manifest and appendHead leave.
-/
namespace Go.Proofs.YtkpcmfgeanlcnabDoor
open Go.RowKit Go.Deep

theorem u8V_append (a b : List UInt8) : u8V (a ++ b) = u8V a ++ u8V b := by simp [u8V]
theorem OwnB.lt {B : Nat} {w : World} {v : Value} {l : List UInt8} (h : OwnB B w v l) (k : Nat) (hk : v.ownBlock = some k) : B ≤ k := (World.ownsRow.lt h k hk).1
theorem OwnB.more {B n m : Nat} {w : World} {v : Value} {l k : List UInt8} {xs : List Value} (h : w.ownsRow B 5 1 v (n + m) (u8V l ++ xs)) (e : xs = u8V k) : OwnB B w v (l ++ k) := by
  subst e
  rw [← u8V_append] at h
  exact OwnB.of h
theorem OwnB.grown {B : Nat} {w w' : World} {v : Value} {l : List UInt8} (h : OwnB B w v l) (hg : w.grownBy w' v.ownBlock) (hB : B ≤ w.heap.size) : Below B w w' :=
  (Below.refl B w).grown hg hB (fun k hk => h.lt k hk)
theorem manTo_len (ns : List (List UInt8)) (zs : List Int) (i : Nat) : (manTo ns zs i).length = manNto ns i := manTo_length ns zs i

set_option maxHeartbeats 1000000 in
set_option maxRecDepth 100000 in
theorem manifest_any (vN vS : Value) (ns : List (List UInt8)) (zs : List Int) (hok : ListOk ns zs) (hn : ns.length ≤ 1000) (ht : tot zs ≤ 65536) (w : World) (h1 : Lies w vN (nameV ns)) (h2 : Lies w vS (intV zs)) (hT : Tab w) :
    Calls Tryd.prog 20 #[vN, vS] w fun r w' => ∃ v, r = .returned v ∧ OwnB w.heap.size w' v (sealB (manTo ns zs ns.length)) ∧ Below w.heap.size w w' := by
  have K0 := manSize_any vN ns hn hok.2.1 w h1
  obtain ⟨i0, hi0, hz0, hz1, hz2⟩ := info_parts infoB8
  obtain ⟨m, em⟩ : ∃ m, manN ns = m := ⟨_, rfl⟩
  rw [em] at K0
  have hm : m ≤ 1000000 := by
    have := manNto_le ns hok.2.1 ns.length (Nat.le_refl _)
    rw [manNto_all, em] at this
    omega
  obtain ⟨w0, hmk, ho0, hg0⟩ := run_make_own (P := Tryd.prog) w w.heap.size 29 5 i0 (.int .u8 0) 1 Tryd.underlying29 hi0 hz0 hz1 .i64 .i64 (m + 8) (by rw [hz2]; omega) (by unfold maxLen; omega) (Nat.le_refl _)
  rw [show ((m + 8 : Nat) : Int) = (m : Int) + 8 by omega] at hmk
  have hb0 : Below w.heap.size w w0 := (Below.refl _ _).grown hg0 (Nat.le_refl _) (fun k hk => by cases hk)
  have hO0 : OwnB w.heap.size w0 (.slice (some ⟨w.heap.size, 0, none⟩) 0 (m + 8)) [] := OwnB.of ho0
  have K1 := appNum_any (ns.length : Int) 4 ns.length 4 rfl (by omega) rfl (by omega) w.heap.size _ [] (by simp) w0 hO0 hb0.size
  obtain ⟨ba, cap, rfl, hcap, hc⟩ := id h1
  obtain ⟨bz, capz, rfl, hcapz, hcz⟩ := id h2
  rw [nameV_length] at hcap K0 ⊢
  rw [intV_length] at hcapz ⊢
  have hlen : Hid (ns.length = zs.length) := hok.1
  have HK : Hid (ListOk ns zs) := hok
  clear ho0 hg0 em h1 h2 hok
  go_enter Tryd.func20, Tryd.ntmps20
  go_wp2_with (first | (go_at_call 27; refine K0.mono ?_; rintro r w' ⟨rfl, hw'⟩; obtain rfl := hw'.symm) | (go_at_call 28; refine K1.mono ?_; rintro r w1 ⟨v1, rfl, hO1, hb1, hk1⟩))
  have hB1 : Below w.heap.size w w1 := hb0.trans hb1
  clear K0 K1 hmk hO0 hb0 hb1
  rw [List.nil_append] at hO1
  go_loopw [5, 6, 7, 19] (fun v _ _ vi wr => ∃ c : Nat, c ≤ ns.length ∧ vi = .int .i64 (c : Int) ∧ OwnB w.heap.size wr v (manTo ns zs c) ∧ Below w.heap.size w wr) (fun _ _ _ i _ => ns.length - (intOf i).toNat)
  case atStart => exact ⟨0, by omega, rfl, by simpa [manTo] using hO1, hB1⟩
  case round =>
    obtain ⟨c, hcl, rfl, hown, hbel⟩ := hrel
    clear hO1 hB1
    have hsz := hbel.size
    by_cases hlt : c < ns.length
    · obtain ⟨b, off, rfl, hcell⟩ := hc c _ (nameV_at hlt)
      obtain ⟨b2, off2, rfl, hcell2⟩ := hcz c _ (intV_at (by have := hlen.out; omega))
      have hl1 : (manTo ns zs c).length ≤ 1000000 := by
        have := manNto_le ns HK.out.2.1 c (by omega)
        rw [manTo_len]; omega
      have hsc := (HK.out.2.1 c hlt).1
      have hzc := HK.out.2.2 c (by have := hlen.out; omega)
      have hz3 : (zs.getD c 0).toNat ≤ 65536 := by
        have := totTo_le zs (i := c + 1) (by have := hlen.out; omega)
        rw [totTo_succ] at this
        omega
      have MS : Hid _ := manTo_succ ns zs c
      obtain ⟨s, es⟩ : ∃ s, ns.getD c [] = s := ⟨_, rfl⟩
      obtain ⟨z, ez⟩ : ∃ z : Nat, zs.getD c 0 = (z : Int) := ⟨(zs.getD c 0).toNat, by omega⟩
      obtain ⟨M, eM⟩ : ∃ M, manTo ns zs c = M := ⟨_, rfl⟩
      rw [es] at hcell hsc MS
      rw [ez] at hcell2 hz3 MS
      rw [eM] at hl1 MS hown
      rw [Int.toNat_natCast] at hz3 MS
      have hcw := (hbel.cell (p := ⟨b, off + c, none⟩) (cell_lt hcell)).trans hcell
      have hcz2 : ∀ w', Below w.heap.size wr w' → w'.cell? ⟨b2, off2 + c, none⟩ = some (.int .i64 (z : Int)) := fun w' hb => (hb.cell (p := ⟨b2, off2 + c, none⟩) (cell_lt hcell2)).trans ((hbel.cell (p := ⟨b2, off2 + c, none⟩) (cell_lt hcell2)).trans hcell2)
      have hbs := ba_size s
      have K1 := appNum_any (s.length : Int) 2 s.length 2 rfl (by omega) rfl (by omega) w.heap.size _ M (by omega) wr hown hbel.size
      have hlb : (c : Int) < (zs.length : Int) := by have := hlen.out; omega
      clear es ez eM hcell hcell2 hzc hc hcz ht
      go_wp2_with (first
        | (go_at_call 28; refine K1.mono ?_; clear K1; rintro r w2 ⟨v2, rfl, hO2, hb2, hk2⟩; have hs2 := hb2.size)
        | (at_builtin; refine Lib.wpList_append_own_string _ rfl _ _ 29 9 rfl w.heap.size 5 i0 Tryd.underlying29 Tryd.underlying9 hi0 hz0 hz1 hz2 _ _ _ rfl hO2 ⟨s.toArray⟩ rfl (by rw [hbs]; simp [leB_length]; unfold maxLen; omega) (by rw [hbs]; simp [leB_length]; omega) (by omega) ?_; intro v3 w3 hown3 hgrow3 _; have hO3 : OwnB w.heap.size w3 v3 (M ++ leB 2 s.length ++ s) := OwnB.more hown3 (strCells_u8V s); have hb3 : Below w.heap.size wr w3 := hb2.trans (hO2.grown hgrow3 (by omega)); have hc3 := hcz2 _ hb3; have hs3 := hb3.size; have K2 := appNum_any (z : Int) 4 z 4 rfl (by omega) rfl (by omega) w.heap.size _ (M ++ leB 2 s.length ++ s) (by simp [leB_length]; omega) w3 hO3 (by omega); clear hown3 hgrow3 hO3)
        | (go_at_call 28; refine K2.mono ?_; clear K2; rintro r w4 ⟨v4, rfl, hO4, hb4, hk4⟩))
      go_roundw
      case rel => exact ⟨c + 1, by omega, by go_num, by rw [MS.out]; exact hO4, hbel.trans (hb3.trans hb4)⟩
      case measure => simp [intOf]; omega
    · obtain rfl : c = ns.length := by omega
      have hl1 : (manTo ns zs ns.length).length ≤ 1000000 := by
        have := manNto_le ns HK.out.2.1 ns.length (by omega)
        rw [manTo_len]; omega
      have hl0 : 0 < (manTo ns zs ns.length).length := by rw [manTo_len]; unfold manNto; omega
      have K3 := appSum_self w.heap.size _ (manTo ns zs ns.length) (by omega) hl0 wr hown hbel.size (hT.below hbel hT.1)
      clear hc hcz hl1 hl0
      go_wp2_with (first | (go_at_call 29; refine K3.mono ?_; rintro r w2 ⟨v2, rfl, hO2, hb2, hk2⟩))
      go_ret
      exact ⟨_, rfl, hO2, hbel.trans hb2⟩
end Go.Proofs.YtkpcmfgeanlcnabDoor

/-
  What the program's calls that put bytes behind a list leave.
-/
import Derived.Test.YtkpcmfgeanlcnaaDoorWrB
namespace Go.Proofs.YtkpcmfgeanlcnaaDoor
open Go.RowKit Go.Deep

/-- A list of bytes of one's own. -/
def OwnB (B : Nat) (w : World) (v : Value) (l : List UInt8) : Prop := w.ownsRow B 5 1 v l.length (u8V l)
theorem OwnB.of {B n : Nat} {w : World} {v : Value} {l : List UInt8} (h : w.ownsRow B 5 1 v n (u8V l)) : OwnB B w v l := by
  have : n = l.length := by have := h.1; rw [u8V_length] at this; omega
  subst this; exact h
theorem OwnB.alloc {B : Nat} {w : World} {v : Value} {l : List UInt8} (h : OwnB B w v l) (o : Obj) : OwnB B (w.alloc o) v l := World.ownsRow.alloc h o
/-- It is no row of bytes. -/
def noBytes : Obj → Bool
  | .cells _ t _ => t != 5
  | _ => true
/-- What is no row of bytes lies as it lay. -/
structure KeepT (w w' : World) : Prop where
  size : w.heap.size ≤ w'.heap.size
  same : ∀ (k : Nat) (o : Obj), w.heap[k]? = some o → noBytes o = true → w'.heap[k]? = some o
theorem KeepT.refl (w : World) : KeepT w w := ⟨Nat.le_refl _, fun _ _ h _ => h⟩
theorem KeepT.trans {a b c : World} (h : KeepT a b) (k : KeepT b c) : KeepT a c := ⟨Nat.le_trans h.size k.size, fun i o hh ht => k.same i o (h.same i o hh ht) ht⟩
theorem KeepT.alloc {a w : World} (h : KeepT a w) (o : Obj) : KeepT a (w.alloc o) := h.trans ⟨by simp, fun k o' hh _ => by
  have hk : k < w.heap.size := (Array.getElem?_eq_some_iff.1 hh).1
  exact (Below.heap_alloc w o k hk).trans hh⟩
theorem OwnB.keeps {B : Nat} {w w' : World} {v : Value} {l : List UInt8} (h : OwnB B w v l) (hg : w.grownBy w' v.ownBlock) : KeepT w w' := ⟨hg.size, fun k o hh ht => by
  have hk : k < w.heap.size := (Array.getElem?_eq_some_iff.1 hh).1
  rw [hg.block k hk ?_]
  · exact hh
  · intro e
    rcases h.2 with ⟨rfl, _⟩ | ⟨g, cap, cur, rfl, _, hb, _⟩
    · cases e
    · cases e
      rw [hb] at hh
      cases hh
      simp [noBytes] at ht⟩
theorem RowAt.keep {w w' : World} {b : Nat} {cs : List Value} {t : TypeId} (h : RowAt w b cs t) (hk : KeepT w w') (ht : t ≠ 5) : RowAt w' b cs t := hk.same b _ h (by simpa [noBytes] using ht)
/-- What is answered is a list of one's own with these bytes; what lay below B lies as it lay. -/
def Gives (B : Nat) (w : World) (l : List UInt8) (r : Ending) (w' : World) : Prop := ∃ v, r = .returned v ∧ OwnB B w' v l ∧ Below B w w' ∧ KeepT w w'

set_option maxHeartbeats 1600000 in
set_option maxRecDepth 100000 in
theorem appNum_any (X N : Int) (x n : Nat) (hX : X = x) (hx : x < 2 ^ 64) (hN : N = n) (hn : n ≤ 8) (B : Nat) (v0 : Value) (l : List UInt8) (hl : l.length < 2 ^ 40) (w : World) (h0 : OwnB B w v0 l) (hB : B ≤ w.heap.size) :
    Calls Tryd.prog 83 #[v0, .int .u64 X, .int .i64 N] w fun r w' => Gives B w (l ++ leB n x) r w' := by
  subst hX hN
  obtain ⟨i0, hi0, hz0, hz1, hz2⟩ := info_parts infoB8
  go_enter Tryd.func83, Tryd.ntmps83
  go_wp2
  go_loopw [0, 1, 8] (fun v vv vi wr => ∃ c : Nat, c ≤ n ∧ vv = .int .u64 ((x / 256 ^ c : Nat) : Int) ∧ vi = .int .i64 (c : Int) ∧ wr.ownsRow B 5 1 v (l.length + c) (u8V (l ++ leB c x)) ∧ Below B w wr ∧ KeepT w wr) (fun _ _ i _ => n - (intOf i).toNat)
  case atStart => exact ⟨0, by omega, by simp, rfl, by have := h0; unfold OwnB at this; simpa [leB] using this, Below.refl _ _, KeepT.refl _⟩
  case round =>
    obtain ⟨c, hc, rfl, rfl, hown, hbel, hkt⟩ := hrel
    clear h0
    have hsz := hbel.size
    by_cases hlt : c < n
    · obtain ⟨y, ey⟩ : ∃ y, x / 256 ^ c = y := ⟨_, rfl⟩
      have hy : y < 2 ^ 64 := by rw [← ey]; exact Nat.lt_of_le_of_lt (Nat.div_le_self _ _) hx
      have EQ : Hid (u8V (l ++ leB c x) ++ [.int .u8 ((y % 256 : Nat) : Int)] = u8V (l ++ leB (c + 1) x)) := u8V_snoc _ (y % 256) (by omega) _ (by rw [leB_snoc, ey, List.append_assoc])
      have DV : Hid (y / 256 = x / 256 ^ (c + 1)) := by rw [← ey, Nat.div_div_eq_div_mul, Nat.pow_succ]; exact rfl
      rw [ey]
      clear ey hx
      go_wp2_with (at_builtin; refine wpList_append_own _ rfl _ _ 24 rfl B 5 i0 (.int .u8 0) 1 1 Tryd.underlying24 hi0 hz0 hz1 hz2 rfl (by decide) _ _ _ rfl (hown.alloc _) ⟨wr.heap.size, 0, none⟩ 1 1 [.int .u8 ((y % 256 : Nat) : Int)] rfl rfl (cell_one_new _ _ _) (one_u8' _) (by unfold maxLen; omega) (by omega) (by simp; omega) ?_; intro v2 w2 hown2 hgrow _)
      have hb2 := (hbel.alloc (by omega) (.cells #[Value.int .u8 ((y % 256 : Nat) : Int)] 5)).grown hgrow (by simp; omega) (fun k hk => (hown.lt k hk).1)
      have hk2 : KeepT w w2 := (hkt.alloc _).trans (OwnB.keeps (OwnB.of (hown.alloc _)) hgrow)
      clear hgrow
      go_wp2
      go_roundw
      case rel => exact ⟨c + 1, by omega, by rw [← DV.out]; go_num, by go_num, by rw [← EQ.out]; exact hown2, hb2, hk2⟩
      case measure => simp [intOf]; omega
    · have e : c = n := by omega
      subst e
      go_wp2
      go_ret
      exact ⟨_, rfl, OwnB.of hown, hbel, hkt⟩

/-- The table of the sum stands as it is laid. -/
def Tab (w : World) : Prop := 0 < w.heap.size ∧ ∀ i, i < 16 → w.cell? ⟨0, i, none⟩ = some (.int .u64 ((crcTab.getD i 0 : Nat) : Int))
theorem Tab.below {w w' : World} {B : Nat} (h : Tab w) (hb : Below B w w') (hB : 0 < B) : Tab w' :=
  ⟨Nat.lt_of_lt_of_le h.1 hb.size, fun i hi => (hb.cell (p := ⟨0, i, none⟩) hB).trans (h.2 i hi)⟩
theorem Tab.heap {w w' : World} (h : Tab w) (hh : w'.heap = w.heap) : Tab w' := by
  refine ⟨by rw [hh]; exact h.1, fun i hi => ?_⟩
  have := h.2 i hi
  unfold World.cell? at *
  rw [hh]; exact this
theorem sumOf_any (bb bo cap : Nat) (l : List UInt8) (hl : l.length < 2 ^ 60) (w : World) (hb : Byt w bb bo l) (ht : Tab w) :
    Calls Tryd.prog 17 #[.slice (some ⟨bb, bo, none⟩) l.length cap] w fun e w' => e = .returned (.int .u64 (sumOf l : Nat)) ∧ w' = w :=
  sum_row bb bo l.length cap (l.map UInt8.toNat) (by simp) (fun i _ => by rw [map_getD]; exact bAt_lt l i) (by omega) w (fun i hi => by rw [map_getD]; exact hb i hi) ht.2

set_option maxHeartbeats 1600000 in
set_option maxRecDepth 100000 in
theorem appSum_any (B : Nat) (v0 : Value) (l : List UInt8) (hl : l.length < 2 ^ 40) (w : World) (h0 : OwnB B w v0 l) (hB : B ≤ w.heap.size) (bb bo cap : Nat) (p : List UInt8) (hp : p.length < 2 ^ 60) (hb : Byt w bb bo p) (ht : Tab w) :
    Calls Tryd.prog 81 #[v0, .slice (some ⟨bb, bo, none⟩) p.length cap] w fun r w' => Gives B w (l ++ leB 8 (sumOf p)) r w' := by
  have K1 := sumOf_any bb bo cap p hp w hb ht
  have hs := sumOf_lt p
  obtain ⟨s, es⟩ : ∃ s, sumOf p = s := ⟨_, rfl⟩
  rw [es] at K1 hs ⊢
  have K2 := appNum_any (s : Int) 8 s 8 rfl hs rfl (by omega) B v0 l hl w h0 hB
  clear h0 hb ht es
  go_enter Tryd.func81, Tryd.ntmps81
  go_wp2_with (first | (go_at_call 17; refine K1.mono ?_; rintro r w' ⟨rfl, hw'⟩; obtain rfl := hw'.symm) | (go_at_call 83; refine K2.mono ?_; rintro r w' ⟨v, rfl, h1, h2, h3⟩))
  go_ret
  exact ⟨_, rfl, h1, h2, h3⟩
/-- .. of the whole list. -/
theorem appSum_self (B : Nat) (v0 : Value) (l : List UInt8) (hl : l.length < 2 ^ 40) (hp : 0 < l.length) (w : World) (h0 : OwnB B w v0 l) (hB : B ≤ w.heap.size) (ht : Tab w) :
    Calls Tryd.prog 81 #[v0, v0] w fun r w' => Gives B w (sealB l) r w' := by
  obtain ⟨g, c, e, _, _, _, _, hb⟩ := owns_byt h0 hp
  have K := appSum_any B v0 l hl w h0 hB g 0 c l (by omega) hb ht
  rw [← e] at K
  exact K
end Go.Proofs.YtkpcmfgeanlcnaaDoor

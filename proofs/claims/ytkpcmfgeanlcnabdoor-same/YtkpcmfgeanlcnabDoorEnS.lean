/-
  When two lists of rows of bytes are told to be the same: run alone.
-/
import Derived.Test.YtkpcmfgeanlcnabDoorLinesW
import Derived.BigQuiet
import Derived.KernelRfl
import Derived.Test.YtkpcmfgeanlcnabDoorEnL
import Derived.Test.YtkpcmfgeanlcnabDoorWrP
namespace Go.Proofs.YtkpcmfgeanlcnabDoor
open Go.RowKit Go.Deep

theorem holds8_heap {w w' : World} {v : Value} {l : List UInt8} (h : Holds8 w v l) (e : w'.heap = w.heap) : Holds8 w' v l := by
  rcases h with h | ⟨a, cap, h1, h2⟩
  · exact .inl h
  · exact .inr ⟨a, cap, h1, fun j hj => by rw [← h2 j hj]; simp only [World.cell?, e]⟩
theorem drewN_add (w : World) (n m : Nat) : (w.drewN n).drewN m = w.drewN (n + m) := by
  simp [World.drewN, Nat.add_assoc]
end Go.Proofs.YtkpcmfgeanlcnabDoor

/-
  The document's Encode: run alone.
-/
namespace Go.Proofs.YtkpcmfgeanlcnabDoor
open Go.RowKit Go.Deep Go.Hp

theorem holds8_ownB {w : World} {B : Nat} {v : Value} {l : List UInt8} (h : OwnB B w v l) : Holds8 w v l := by
  rcases h.2 with ⟨rfl, e⟩ | ⟨g, cap, cur, rfl, _⟩
  · exact .inl ⟨rfl, List.length_eq_zero_iff.1 e⟩
  · refine .inr ⟨⟨g, 0, none⟩, cap, rfl, fun j hj => ?_⟩
    have e : ((⟨g, 0, none⟩ : Addr).add j) = ⟨g, j, none⟩ := by rw [addr_addD, Nat.zero_add]
    rw [e, h.cellAt j (by omega)]
    simp [u8V, hj]
def outL (ov : Nat → Value) (j : Nat) : List Value := (List.range j).map ov
theorem outL_succ (ov : Nat → Value) (j : Nat) : outL ov (j + 1) = outL ov j ++ [ov j] := by simp [outL, List.range_succ]
theorem outL_congr {ov ov' : Nat → Value} {j : Nat} (h : ∀ i, i < j → ov i = ov' i) : outL ov j = outL ov' j := List.map_congr_left fun i hi => h i (List.mem_range.1 hi)

/-- What comes out where all is well. -/
def EncOut (K N C m : Nat) (f' : Nat → Ent) (d : Ent → List UInt8) (w' : World) (go : Nat) : Prop := ∃ ov : Nat → Value, (∀ i, i < N → w'.cell? ⟨go, i, none⟩ = some (ov i)) ∧
  ∀ i, i < N → Holds8 w' (ov i) (shardB K N C (namesOf m f') (sizesOf m f') i (colB K (lenC K (joinD (fun j => d (f' j)) m).length) (joinD (fun j => d (f' j)) m) i))
def EncR (k n c : Int) (m : Nat) (f : Nat → Ent) (d : Ent → List UInt8) (w : World) (r : Ending) (w' : World) : Prop :=
  Below w.heap.size w w' ∧ ((¬ ParamsOk k n c ∧ r = .returned (.tuple #[.slice none 0 0, .int .i64 1])) ∨ (ParamsOk k n c ∧ ¬ NamesFit m f ∧ r = .returned (.tuple #[.slice none 0 0, .int .i64 2])) ∨
    (ParamsOk k n c ∧ ∃ f', Rearr m f f' ∧ Srt m f' ∧ NamesOk (namesOf m f') ∧ ((¬ FewOk (namesOf m f') (sizesOf m f') ∧ r = .returned (.tuple #[.slice none 0 0, .int .i64 3])) ∨
      (FewOk (namesOf m f') (sizesOf m f') ∧ ∃ go cg, r = .returned (.tuple #[.slice (some ⟨go, 0, none⟩) n.toNat cg, .int .i64 0]) ∧ EncOut k.toNat n.toNat c.toNat m f' d w' go))))

def lists2 (h : Nat) (wr : World) (i : Nat) (f : Nat → Ent) (va vb : Value) : Prop :=
  wr.ownsRow h 9 1 va i (nameV (namesOf i f)) ∧ wr.ownsRow h 3 1 vb i (intV (sizesOf i f))

end Go.Proofs.YtkpcmfgeanlcnabDoor

/-
  Encode where it is refused: the program's answer, the document's, the statement's: run alone.
-/
namespace Go.Proofs.YtkpcmfgeanlcnabDoor
open Go.RowKit Go.Deep Go.Hp

/-- The blobs that are handed in. -/
structure Args (w : World) (bo : Option Addr) (m cap : Nat) (f : Nat → Ent) (d : Ent → List UInt8) : Prop where
  hm : m ≤ 1048576
  hcap : m ≤ cap
  hbo : bo = none → cap = 0
  hk : ∀ i, i < m → (f i).k.length ≤ 9223372036854775807
  hl : ∀ i, i < m → (f i).l ≤ 9223372036854775807
  bc : BC w bo m f
  dat : ∀ i, i < m → DataAt w (f i) (d (f i))
theorem Args.below {w w' : World} {bo : Option Addr} {m cap : Nat} {f : Nat → Ent} {d : Ent → List UInt8} (h : Args w bo m cap f d) (hb : Below w.heap.size w w') : Args w' bo m cap f d :=
  ⟨h.hm, h.hcap, h.hbo, h.hk, h.hl, h.bc.below hb (Nat.le_refl _), fun i hi => (h.dat i hi).below hb (Nat.le_refl _)⟩

set_option maxHeartbeats 4000000 in
set_option maxRecDepth 100000 in
theorem arch_no (k n c : Int) (m cap : Nat) (bo : Option Addr) (f : Nat → Ent) (w : World) (hm : m ≤ 1048576) (hB : BC w bo m f) (hN : NamesOk (namesOf m f)) (hF : ¬ FewOk (namesOf m f) (sizesOf m f)) :
    Calls Tryd.prog 12 #[.slice bo m cap, .agg #[.int .i64 k, .int .i64 n, .int .i64 c]] w fun e w' => e = .returned (.tuple #[.slice none 0 0, .bool false]) ∧ Below w.heap.size w w' := by
  have hb0 := (Below.refl w.heap.size w).alloc (Nat.le_refl _) (.cells #[.int .i64 k, .int .i64 n, .int .i64 c] 24)
  have kc := content_any m cap bo f (w.alloc (.cells #[.int .i64 k, .int .i64 n, .int .i64 c] 24)) hm (hB.below hb0 (Nat.le_refl _))
  have HF : Hid (¬ FewOk (namesOf m f) (sizesOf m f)) := hF
  have HL : Hid (ListOk (namesOf m f) (sizesOf m f)) := names_listed hN
  clear hF hN hB
  go_enter Tryd.func12, Tryd.ntmps12
  go_wp2_with (first
    | (go_at_call 18; (with_reducible refine kc.mono ?_); rintro r w1 ⟨hb1, vn, vs, rfl, hn1, hs1⟩; have kf := contentFits_any vn vs (namesOf m f) (sizesOf m f) (by rw [namesOf_length]; omega) (by rw [sizesOf_length]; omega) HL.out w1 (lies_owns hn1) (lies_owns hs1); clear kc)
    | (go_at_call 19; (with_reducible refine kf.mono ?_); rintro r w2 ⟨hw2, ht⟩; obtain rfl := ht.no HF.out; obtain rfl := hw2.symm))
  go_ret2
  exact ⟨rfl, hb0.trans (hb1.mono (by simp))⟩

/-- What Encode refuses, and with which word. -/
def Refused (k n c : Int) (m : Nat) (f : Nat → Ent) (x : Int) : Prop := (¬ ParamsOk k n c ∧ x = 1) ∨ (ParamsOk k n c ∧ ¬ NamesFit m f ∧ x = 2) ∨ (ParamsOk k n c ∧ NamesFit m f ∧ (∃ f', Rearr m f f' ∧ Srt m f' ∧ ¬ FewOk (namesOf m f') (sizesOf m f')) ∧ x = 3)

set_option maxHeartbeats 4000000 in
set_option maxRecDepth 100000 in
theorem cenc_no (k n c x : Int) {m cap : Nat} {bo : Option Addr} {f : Nat → Ent} {d : Ent → List UInt8} {w : World} (hA : Args w bo m cap f d) (hR : Refused k n c m f x) :
    Calls Tryd.prog 7 #[.slice bo m cap, .agg #[.int .i64 k, .int .i64 n, .int .i64 c]] w fun e w' => e = .returned (.tuple #[.slice none 0 0, .int .i64 x]) ∧ Below w.heap.size w w' := by
  have hr0 := RowAt.made w [.int .i64 k, .int .i64 n, .int .i64 c] 24
  have hb0 := (Below.refl w.heap.size w).alloc (Nat.le_refl _) (.cells #[.int .i64 k, .int .i64 n, .int .i64 c] 24)
  have c0 := hr0.cell (i := 0) rfl
  have c1 := hr0.cell (i := 1) rfl
  have c2 := hr0.cell (i := 2) rfl
  have kp := paramsFit_any k n c (w.alloc (.cells #[.int .i64 k, .int .i64 n, .int .i64 c] 24))
  rcases hR with ⟨h1, rfl⟩ | ⟨h1, h2, rfl⟩ | ⟨h1, h2, ⟨f', hR, hS, h3⟩, rfl⟩
  · have H1 : Hid (¬ ParamsOk k n c) := h1
    go_enter Tryd.func7, Tryd.ntmps7
    go_wp2_with (first | (go_at_call 10; (with_reducible refine kp.mono ?_); rintro r w1 ⟨hb1, ht⟩; obtain rfl := ht.no H1.out))
    go_ret2
    exact ⟨rfl, hb0.trans (hb1.mono (by simp))⟩
  · have H1 : Hid (ParamsOk k n c) := h1
    have H2 : Hid (¬ NamesFit m f) := h2
    go_enter Tryd.func7, Tryd.ntmps7
    go_wp2_with (first
      | (go_at_call 10; (with_reducible refine kp.mono ?_); rintro r w1 ⟨hb1, ht⟩; obtain rfl := ht.yes H1.out; have hbw := hb0.trans (hb1.mono (by simp)); have kb := byName_any m cap bo f w1 hA.hm hA.hk (hA.bc.below hbw (Nat.le_refl _)))
      | (go_at_call 11; (with_reducible refine kb.mono ?_); rintro r w2 ⟨hb2, hor⟩; (obtain rfl : r = .returned (.tuple #[.slice none 0 0, .bool false]) := by rcases hor with ⟨_, e⟩ | ⟨h, _⟩; exact e; exact absurd h H2.out)))
    go_ret2
    exact ⟨rfl, hbw.trans (hb2.mono hbw.size)⟩
  · have H1 : Hid (ParamsOk k n c) := h1
    have H2 : Hid (NamesFit m f) := h2
    have HN : Hid (NamesOk (namesOf m f')) := (names_iff hR hS).2 h2
    have H3 : Hid (¬ FewOk (namesOf m f') (sizesOf m f')) := h3
    go_enter Tryd.func7, Tryd.ntmps7
    go_wp2_with (first
      | (go_at_call 10; (with_reducible refine kp.mono ?_); rintro r w1 ⟨hb1, ht⟩; obtain rfl := ht.yes H1.out; have hbw := hb0.trans (hb1.mono (by simp)); have kb := byName_any m cap bo f w1 hA.hm hA.hk (hA.bc.below hbw (Nat.le_refl _)))
      | (go_at_call 11; (with_reducible refine kb.mono ?_); rintro r w2 ⟨hb2, hor⟩
         obtain ⟨f2, v2, rfl, hR2, hlt2, ho2⟩ : ∃ f' v, r = .returned (.tuple #[v, .bool true]) ∧ Rearr m f f' ∧ (∀ i, i + 1 < m → Hp.lt (f' i).k (f' (i + 1)).k = true) ∧ w2.ownsRow w1.heap.size 31 2 v m (blobL m f') := (by rcases hor with ⟨h, _⟩ | ⟨_, h⟩; exact absurd H2.out h; exact h)
         have e2 : ∀ i, i < m → f' i = f2 i := sorted_one hR2 hR hlt2 hS
         have HN2 := HN.out; have H32 := H3.out; rw [names_same e2] at HN2 H32; rw [sizes_same e2] at H32
         obtain ⟨bo2, cap2, rfl, _, _, hB2⟩ := BC.of_owns ho2
         have hbw2 := hbw.trans (hb2.mono hbw.size)
         have hr2 := hr0.later (S := fun _ => False) (.of_below (hb1.trans (hb2.mono hb1.size))) (by simp) id
         have d0 := hr2.cell (i := 0) rfl
         have d1 := hr2.cell (i := 1) rfl
         have d2 := hr2.cell (i := 2) rfl
         have ka := arch_no k n c m cap2 bo2 f2 w2 hA.hm hB2 HN2 H32)
      | (go_at_call 12; (with_reducible refine ka.mono ?_); rintro r w3 ⟨rfl, hb3⟩))
    go_ret2
    exact ⟨rfl, hbw2.trans (hb3.mono hbw2.size)⟩

end Go.Proofs.YtkpcmfgeanlcnabDoor

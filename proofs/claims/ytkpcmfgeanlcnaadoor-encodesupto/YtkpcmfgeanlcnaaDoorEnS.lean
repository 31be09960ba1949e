/-
  Encode where it is refused: the program's answer, the document's, the statement's: run alone.
-/
import Derived.Test.YtkpcmfgeanlcnaaDoorEnM
namespace Go.Proofs.YtkpcmfgeanlcnaaDoor
open Go.RowKit Go.Deep Go.Hp

set_option maxHeartbeats 400000 in
set_option maxRecDepth 100000 in
theorem numE_any (x : Int) (w : World) :
    Calls Tryd.prog 20 #[.int .i64 x] w fun e w' => e = .returned (.int .i64 x) ∧ w' = w := by
  go_enter Tryd.func20, Tryd.ntmps20
  go_wp2
  go_ret
  exact ⟨rfl, rfl⟩
set_option maxHeartbeats 1000000 in
set_option maxRecDepth 100000 in
theorem sameLists_nil (w : World) :
    Calls Tryd.prog 21 #[.slice none 0 0, .slice none 0 0] w fun e w' => e = .returned (.bool true) ∧ w' = w := by
  go_enter Tryd.func21, Tryd.ntmps21
  go_wp2
  go_loopw [5, 6] (fun vi _ wr => vi = .int .i64 0 ∧ wr = w) (fun _ _ _ => 0)
  case atStart => exact ⟨rfl, rfl⟩
  case round =>
    obtain ⟨rfl, rfl⟩ := hrel
    go_wp2
    go_ret
    exact ⟨rfl, rfl⟩

/-- The blobs that are handed in. -/
structure Args (w : World) (bo : Option Addr) (m cap : Nat) (f : Nat → Ent) (d : Ent → List UInt8) : Prop where
  hm : m ≤ 1048576
  hcap : m ≤ cap
  hbo : bo = none → cap = 0
  hk : ∀ i, i < m → (f i).k.length ≤ 9223372036854775807
  hl : ∀ i, i < m → (f i).l ≤ 9223372036854775807
  bc : BC w bo m f
  dat : ∀ i, i < m → DataAt w (f i) (d (f i))
theorem Args.below {w w' : World} {bo : Option Addr} {m cap : Nat} {f : Nat → Ent} {d : Ent → List UInt8} (h : Args w bo m cap f d) (hb : Below w.heap.size w w') : Args w' bo m cap f d :=
  ⟨h.hm, h.hcap, h.hbo, h.hk, h.hl, h.bc.below hb (Nat.le_refl _), fun i hi => (h.dat i hi).below hb (Nat.le_refl _)⟩

set_option maxHeartbeats 4000000 in
set_option maxRecDepth 100000 in
theorem arch_no (k n c : Int) (m cap : Nat) (bo : Option Addr) (f : Nat → Ent) (w : World) (hm : m ≤ 1048576) (hB : BC w bo m f) (hN : NamesOk (namesOf m f)) (hF : ¬ FewOk (namesOf m f) (sizesOf m f)) :
    Calls Tryd.prog 32 #[.slice bo m cap, .agg #[.int .i64 k, .int .i64 n, .int .i64 c]] w fun e w' => e = .returned (.tuple #[.slice none 0 0, .bool false]) ∧ Below w.heap.size w w' := by
  have hb0 := (Below.refl w.heap.size w).alloc (Nat.le_refl _) (.cells #[.int .i64 k, .int .i64 n, .int .i64 c] 28)
  have kc := content_any m cap bo f (w.alloc (.cells #[.int .i64 k, .int .i64 n, .int .i64 c] 28)) hm (hB.below hb0 (Nat.le_refl _))
  have HF : Hid (¬ FewOk (namesOf m f) (sizesOf m f)) := hF
  have HL : Hid (ListOk (namesOf m f) (sizesOf m f)) := names_listed hN
  clear hF hN hB
  go_enter Tryd.func32, Tryd.ntmps32
  go_wp2_with (first
    | (go_at_call 60; (with_reducible refine kc.mono ?_); rintro r w1 ⟨hb1, vn, vs, rfl, hn1, hs1⟩; have kf := contentFits_any vn vs (namesOf m f) (sizesOf m f) (by rw [namesOf_length]; omega) (by rw [sizesOf_length]; omega) HL.out w1 (lies_owns hn1) (lies_owns hs1); clear kc)
    | (go_at_call 61; (with_reducible refine kf.mono ?_); rintro r w2 ⟨hw2, ht⟩; obtain rfl := ht.no HF.out; obtain rfl := hw2.symm))
  go_ret2
  exact ⟨rfl, hb0.trans (hb1.mono (by simp))⟩

/-- What Encode refuses, and with which word. -/
def Refused (k n c : Int) (m : Nat) (f : Nat → Ent) (x : Int) : Prop := (¬ ParamsOk k n c ∧ x = 1) ∨ (ParamsOk k n c ∧ ¬ NamesFit m f ∧ x = 2) ∨ (ParamsOk k n c ∧ NamesFit m f ∧ (∃ f', Rearr m f f' ∧ Srt m f' ∧ ¬ FewOk (namesOf m f') (sizesOf m f')) ∧ x = 3)

set_option maxHeartbeats 4000000 in
set_option maxRecDepth 100000 in
theorem cenc_no (k n c x : Int) {m cap : Nat} {bo : Option Addr} {f : Nat → Ent} {d : Ent → List UInt8} {w : World} (hA : Args w bo m cap f d) (hR : Refused k n c m f x) :
    Calls Tryd.prog 18 #[.slice bo m cap, .agg #[.int .i64 k, .int .i64 n, .int .i64 c]] w fun e w' => e = .returned (.tuple #[.slice none 0 0, .int .i64 x]) ∧ Below w.heap.size w w' := by
  have hr0 := RowAt.made w [.int .i64 k, .int .i64 n, .int .i64 c] 28
  have hb0 := (Below.refl w.heap.size w).alloc (Nat.le_refl _) (.cells #[.int .i64 k, .int .i64 n, .int .i64 c] 28)
  have c0 := hr0.cell (i := 0) rfl
  have c1 := hr0.cell (i := 1) rfl
  have c2 := hr0.cell (i := 2) rfl
  have kp := paramsFit_any k n c (w.alloc (.cells #[.int .i64 k, .int .i64 n, .int .i64 c] 28))
  rcases hR with ⟨h1, rfl⟩ | ⟨h1, h2, rfl⟩ | ⟨h1, h2, ⟨f', hR, hS, h3⟩, rfl⟩
  · have H1 : Hid (¬ ParamsOk k n c) := h1
    go_enter Tryd.func18, Tryd.ntmps18
    go_wp2_with (first | (go_at_call 30; (with_reducible refine kp.mono ?_); rintro r w1 ⟨hb1, ht⟩; obtain rfl := ht.no H1.out))
    go_ret2
    exact ⟨rfl, hb0.trans (hb1.mono (by simp))⟩
  · have H1 : Hid (ParamsOk k n c) := h1
    have H2 : Hid (¬ NamesFit m f) := h2
    go_enter Tryd.func18, Tryd.ntmps18
    go_wp2_with (first
      | (go_at_call 30; (with_reducible refine kp.mono ?_); rintro r w1 ⟨hb1, ht⟩; obtain rfl := ht.yes H1.out; have hbw := hb0.trans (hb1.mono (by simp)); have kb := byName_any m cap bo f w1 hA.hm hA.hk (hA.bc.below hbw (Nat.le_refl _)))
      | (go_at_call 31; (with_reducible refine kb.mono ?_); rintro r w2 ⟨hb2, hor⟩; (obtain rfl : r = .returned (.tuple #[.slice none 0 0, .bool false]) := by rcases hor with ⟨_, e⟩ | ⟨h, _⟩; exact e; exact absurd h H2.out)))
    go_ret2
    exact ⟨rfl, hbw.trans (hb2.mono hbw.size)⟩
  · have H1 : Hid (ParamsOk k n c) := h1
    have H2 : Hid (NamesFit m f) := h2
    have HN : Hid (NamesOk (namesOf m f')) := (names_iff hR hS).2 h2
    have H3 : Hid (¬ FewOk (namesOf m f') (sizesOf m f')) := h3
    go_enter Tryd.func18, Tryd.ntmps18
    go_wp2_with (first
      | (go_at_call 30; (with_reducible refine kp.mono ?_); rintro r w1 ⟨hb1, ht⟩; obtain rfl := ht.yes H1.out; have hbw := hb0.trans (hb1.mono (by simp)); have kb := byName_any m cap bo f w1 hA.hm hA.hk (hA.bc.below hbw (Nat.le_refl _)))
      | (go_at_call 31; (with_reducible refine kb.mono ?_); rintro r w2 ⟨hb2, hor⟩
         obtain ⟨f2, v2, rfl, hR2, hlt2, ho2⟩ : ∃ f' v, r = .returned (.tuple #[v, .bool true]) ∧ Rearr m f f' ∧ (∀ i, i + 1 < m → Hp.lt (f' i).k (f' (i + 1)).k = true) ∧ w2.ownsRow w1.heap.size 87 2 v m (blobL m f') := (by rcases hor with ⟨h, _⟩ | ⟨_, h⟩; exact absurd H2.out h; exact h)
         have e2 : ∀ i, i < m → f' i = f2 i := sorted_one hR2 hR hlt2 hS
         have HN2 := HN.out; have H32 := H3.out; rw [names_same e2] at HN2 H32; rw [sizes_same e2] at H32
         obtain ⟨bo2, cap2, rfl, _, _, hB2⟩ := BC.of_owns ho2
         have hbw2 := hbw.trans (hb2.mono hbw.size)
         have hr2 := hr0.later (S := fun _ => False) (.of_below (hb1.trans (hb2.mono hb1.size))) (by simp) id
         have d0 := hr2.cell (i := 0) rfl
         have d1 := hr2.cell (i := 1) rfl
         have d2 := hr2.cell (i := 2) rfl
         have ka := arch_no k n c m cap2 bo2 f2 w2 hA.hm hB2 HN2 H32)
      | (go_at_call 32; (with_reducible refine ka.mono ?_); rintro r w3 ⟨rfl, hb3⟩))
    go_ret2
    exact ⟨rfl, hbw2.trans (hb3.mono hbw2.size)⟩

set_option maxHeartbeats 4000000 in
set_option maxRecDepth 100000 in
theorem encoded_no (k n c x : Int) {m cap : Nat} {bo : Option Addr} {f : Nat → Ent} {d : Ent → List UInt8} {w : World} (hA : Args w bo m cap f d) (hR : Refused k n c m f x) :
    Calls Tryd.prog 4 #[.slice bo m cap, .agg #[.int .i64 k, .int .i64 n, .int .i64 c]] w fun e w' => e = .returned (.bool true) ∧ Below w.heap.size w w' := by
  have key : ∀ w1, Below w.heap.size w w1 → Calls Tryd.prog 10 #[.slice bo m cap, .agg #[.int .i64 k, .int .i64 n, .int .i64 c]] w1 fun e w' => e = .returned (.tuple #[.slice none 0 0, .bool true]) ∧ Below w1.heap.size w1 w' := fun w1 hbw => by
    have hA1 := hA.below hbw
    clear hA hbw
    have hr0 := RowAt.made w1 [.int .i64 k, .int .i64 n, .int .i64 c] 28
    have hb0 := (Below.refl w1.heap.size w1).alloc (Nat.le_refl _) (.cells #[.int .i64 k, .int .i64 n, .int .i64 c] 28)
    have c0 := hr0.cell (i := 0) rfl
    have c1 := hr0.cell (i := 1) rfl
    have c2 := hr0.cell (i := 2) rfl
    have ke := cenc_no k n c x (hA1.below hb0) hR
    have HR : Hid (Refused k n c m f x) := hR
    have kr : ∀ w2, Below w1.heap.size w1 w2 → Calls Tryd.prog 19 #[.slice bo m cap, .agg #[.int .i64 k, .int .i64 n, .int .i64 c]] w2 fun e w' => e = .returned (.tuple #[.slice none 0 0, .int .i64 x]) ∧ Below w2.heap.size w2 w' := fun w2 hb2 => by
      have hA2 := hA1.below hb2
      refine (encR_any k n c m cap bo f d w2 hA2.hm hA2.hcap hA2.hbo hA2.hk hA2.hl hA2.bc hA2.dat).mono ?_
      rintro e w3 ⟨hb3, hor⟩
      refine ⟨?_, hb3⟩
      rcases hR with ⟨h1, rfl⟩ | ⟨h1, h2, rfl⟩ | ⟨h1, h2, ⟨f', hR, hS, h3⟩, rfl⟩
      · rcases hor with ⟨_, e⟩ | ⟨h, _⟩ | ⟨h, _⟩
        · exact e
        · exact absurd h h1
        · exact absurd h h1
      · rcases hor with ⟨h, _⟩ | ⟨_, _, e⟩ | ⟨_, f2, g1, g2, g3, _⟩
        · exact absurd h1 h
        · exact e
        · exact absurd ((names_iff g1 g2).1 g3) h2
      · rcases hor with ⟨h, _⟩ | ⟨_, h, _⟩ | ⟨_, f2, g1, g2, g3, ⟨_, e⟩ | ⟨g4, _⟩⟩
        · exact absurd h1 h
        · exact absurd h2 h
        · exact e
        · have e2 : ∀ i, i < m → f' i = f2 i := sorted_one g1 hR (names_strict g3) hS
          rw [names_same e2, sizes_same e2] at h3
          exact absurd g4 h3
    clear hR hA1
    go_enter Tryd.func10, Tryd.ntmps10
    go_wp2_with (first
      | (go_at_call 18; (with_reducible refine ke.mono ?_); rintro r w2 ⟨rfl, hb2⟩; have hbw2 := hb0.trans (hb2.mono (by simp)); have kr2 := kr w2 hbw2; have hr2 := hr0.later (S := fun _ => False) (.of_below hb2) (by simp) id; have d0 := hr2.cell (i := 0) rfl; have d1 := hr2.cell (i := 1) rfl; have d2 := hr2.cell (i := 2) rfl)
      | (go_at_call 19; (with_reducible refine kr2.mono ?_); rintro r w3 ⟨rfl, hb3⟩)
      | (go_at_call 20; (with_reducible refine (numE_any _ _).mono ?_); rintro e w' ⟨rfl, hw'⟩; obtain rfl := hw'.symm)
      | (go_at_call 21; (with_reducible refine (sameLists_nil _).mono ?_); rintro e w' ⟨rfl, hw'⟩; obtain rfl := hw'.symm))
    go_ret2
    exact ⟨rfl, hbw2.trans (hb3.mono hbw2.size)⟩
  have hr0 := RowAt.made w [.int .i64 k, .int .i64 n, .int .i64 c] 28
  have hb0 := (Below.refl w.heap.size w).alloc (Nat.le_refl _) (.cells #[.int .i64 k, .int .i64 n, .int .i64 c] 28)
  have c0 := hr0.cell (i := 0) rfl
  have c1 := hr0.cell (i := 1) rfl
  have c2 := hr0.cell (i := 2) rfl
  have ke := key _ hb0
  clear key hR hA
  go_enter Tryd.func4, Tryd.ntmps4
  go_wp2_with (first | (go_at_call 10; (with_reducible refine ke.mono ?_); rintro r w2 ⟨rfl, hb2⟩))
  go_ret
  exact ⟨rfl, hb0.trans (hb2.mono (by simp))⟩
end Go.Proofs.YtkpcmfgeanlcnaaDoor

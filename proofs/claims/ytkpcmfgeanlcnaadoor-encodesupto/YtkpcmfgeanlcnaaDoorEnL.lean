/-
  Both sides see the same order of blobs, and the same names, or both refuse them: in plain words.
-/
import Derived.Test.YtkpcmfgeanlcnaaDoorEnH
namespace Go.Proofs.YtkpcmfgeanlcnaaDoor
open Go.RowKit Go.Deep Go.Hp

theorem names_get (n : Nat) (f : Nat → Ent) {i : Nat} (hi : i < n) : (namesOf n f).getD i [] = (f i).k := by
  simp [namesOf, List.getD_eq_getElem?_getD, hi]
theorem notAfter_no {a b : List UInt8} : notAfter a b = false ↔ Hp.lt b a = true := by
  have e : ∀ x y : List UInt8, Op.bytesLess x y = Hp.lt x y := fun _ _ => rfl
  unfold notAfter
  rw [e]
  rcases Hp.lt_tri a b with ⟨g, h, n⟩ | ⟨g, h, n⟩ | ⟨rfl, h, _⟩
  · rw [g, h]; simp
  · rw [g, h]; simp [n]
  · rw [h]; simp
theorem names_strict {n : Nat} {g : Nat → Ent} (h : NamesOk (namesOf n g)) : ∀ i, i + 1 < n → Hp.lt (g i).k (g (i + 1)).k = true := fun i hi => by
  have hl : (namesOf n g).length = n := by simp [namesOf]
  have := (h (i + 1) (by omega)).2 (by omega)
  rw [names_get n g hi, Nat.add_sub_cancel, names_get n g (by omega)] at this
  exact notAfter_no.1 this
theorem names_iff {n : Nat} {f g : Nat → Ent} (hR : Rearr n f g) (hS : Srt n g) : NamesOk (namesOf n g) ↔ NamesFit n f := by
  have hl : (namesOf n g).length = n := by simp [namesOf]
  constructor
  · intro h
    refine ⟨fun i hi => ?_, apart_of hR (names_strict h)⟩
    obtain ⟨j, hj, e⟩ := hR.symm.from hi
    have := (h j (by omega)).1
    rw [names_get n g hj, ← e] at this
    exact this
  · rintro ⟨h1, h2⟩ i hi
    rw [hl] at hi
    rw [names_get n g hi]
    refine ⟨?_, fun h0 => ?_⟩
    · obtain ⟨j, hj, e⟩ := hR.from hi
      rw [e]
      exact h1 j hj
    · rw [names_get n g (by omega), notAfter_no]
      have hle := hS (i - 1) (by omega)
      rw [show i - 1 + 1 = i by omega] at hle
      refine Hp.lt_of_le_ne hle fun e => ?_
      obtain ⟨x, y, hx, hy, hne, e1, e2⟩ := hR.two (i := i - 1) (j := i) (by omega) hi (by omega)
      rw [e1, e2] at e
      rcases Nat.lt_or_ge x y with q | q
      · exact h2 x y q hy e
      · exact h2 y x (by omega) hx e.symm
theorem names_listed {n : Nat} {g : Nat → Ent} (h : NamesOk (namesOf n g)) : ListOk (namesOf n g) (sizesOf n g) := ⟨by simp [namesOf, sizesOf], h, sizes_ok n g⟩
theorem names_same {n : Nat} {g g' : Nat → Ent} (h : ∀ i, i < n → g' i = g i) : namesOf n g' = namesOf n g := List.map_congr_left fun i hi => by rw [h i (List.mem_range.1 hi)]
theorem sizes_same {n : Nat} {g g' : Nat → Ent} (h : ∀ i, i < n → g' i = g i) : sizesOf n g' = sizesOf n g := List.map_congr_left fun i hi => by rw [h i (List.mem_range.1 hi)]
theorem join_same {d : Ent → List UInt8} {g g' : Nat → Ent} : ∀ n, (∀ i, i < n → g' i = g i) → joinD (fun j => d (g' j)) n = joinD (fun j => d (g j)) n
  | 0, _ => rfl
  | n + 1, h => by
    show _ ++ _ = _ ++ _
    rw [join_same n fun i hi => h i (by omega)]
    congr 1
    show d (g' n) = d (g n)
    rw [h n (by omega)]

/-- A column's bytes. -/
def colB (k L : Nat) (l : List UInt8) (t : Nat) : List UInt8 := (List.range L).map fun m => UInt8.ofNat (dotN (rowV k t) (fun j => xAt l L j m) k)
theorem colB_length (k L : Nat) (l : List UInt8) (t : Nat) : (colB k L l t).length = L := by simp [colB]
theorem colB_V (k L : Nat) (l : List UInt8) (t : Nat) : u8V (colB k L l t) = numsV L fun m => dotN (rowV k t) (fun j => xAt l L j m) k := by
  unfold colB u8V numsV
  rw [List.map_map]
  refine List.map_congr_left fun m _ => ?_
  show Value.int .u8 (((UInt8.ofNat _).toNat : Nat) : Int) = _
  rw [UInt8.toNat_ofNat', Nat.mod_eq_of_lt (dotN_lt (fun _ => rowV_lt) k)]
/-- A shard's bytes. -/
def shardB (k n c : Nat) (ns : List (List UInt8)) (zs : List Int) (i : Nat) (col : List UInt8) : List UInt8 :=
  sealB ([67, 65, 73, 82, 78, 49] ++ ([UInt8.ofNat k, UInt8.ofNat n, UInt8.ofNat i, 0] ++ (leB 4 c ++ (leB 4 (manTo ns zs ns.length).length ++ (leB 4 col.length ++ [0, 0]))))) ++ sealB (manTo ns zs ns.length) ++ framesTo c col (nFr c col.length) ++ [68, 79, 78, 69]
end Go.Proofs.YtkpcmfgeanlcnaaDoor

/-
  The document's shards of blobs: run alone.
-/
namespace Go.Proofs.YtkpcmfgeanlcnaaDoor
open Go.RowKit Go.Deep Go.Hp

theorem Tryd.infoSh : (Tryd.prog.info? 36).map (fun i => (i.zero, i.size, i.bytes)) = some (some (.agg #[.int .i64 0, .int .i64 0, .int .i64 0, .int .i64 0, .slice none 0 0, .slice none 0 0, .slice none 0 0]), 7, 104) := by kernel_rfl
def shC (k n c : Nat) (vN vS : Value) (L : Nat) (a : Nat → Option Addr) (cp : Nat → Nat) (i : Nat) : List Value := [.int .i64 ((k : Nat) : Int), .int .i64 ((n : Nat) : Int), .int .i64 ((i : Nat) : Int), .int .i64 ((c : Nat) : Int), vN, vS, .slice (a i) L (cp i)]
def shL (k n c : Nat) (vN vS : Value) (L : Nat) (a : Nat → Option Addr) (cp : Nat → Nat) (j : Nat) : List Value := (List.range j).flatMap (shC k n c vN vS L a cp)
section
variable {k n c : Nat} {vN vS : Value} {L : Nat} {a : Nat → Option Addr} {cp : Nat → Nat}
theorem shL_succ (j : Nat) : shL k n c vN vS L a cp (j + 1) = shL k n c vN vS L a cp j ++ shC k n c vN vS L a cp j := by
  unfold shL
  rw [List.range_succ, List.flatMap_append]
  simp
theorem shL_length (j : Nat) : (shL k n c vN vS L a cp j).length = j * 7 := by
  induction j with
  | zero => rfl
  | succ j ih => rw [shL_succ, List.length_append, ih]; simp [shC]; omega
theorem shL_get (j i p : Nat) (hi : i < j) (hp : p < 7) : (shL k n c vN vS L a cp j)[i * 7 + p]? = (shC k n c vN vS L a cp i)[p]? := by
  induction j with
  | zero => omega
  | succ j ih =>
    rw [shL_succ]
    by_cases e : i = j
    · subst e
      rw [List.getElem?_append_right (by rw [shL_length]; omega), shL_length, show i * 7 + p - i * 7 = p by omega]
    · rw [List.getElem?_append_left (by rw [shL_length]; omega), ih (by omega)]
theorem shL_congr {a' : Nat → Option Addr} {cp' : Nat → Nat} (j : Nat) (h : ∀ i, i < j → a i = a' i ∧ cp i = cp' i) : shL k n c vN vS L a cp j = shL k n c vN vS L a' cp' j := by
  induction j with
  | zero => rfl
  | succ j ih => rw [shL_succ, shL_succ, ih fun i hi => h i (by omega)]; simp only [shC, (h j (by omega)).1, (h j (by omega)).2]
end
theorem cell_seven_new (w : World) (x0 x1 x2 x3 x4 x5 x6 : Value) (t : TypeId) : ∀ j u, [x0, x1, x2, x3, x4, x5, x6][j]? = some u → (w.alloc (.cells #[x0, x1, x2, x3, x4, x5, x6] t)).cell? ((⟨w.heap.size, 0, none⟩ : Addr).add j) = some u := by
  intro j u hj
  match j, hj with
  | 0, hj => simp at hj; subst hj; simp [Addr.add]
  | 1, hj => simp at hj; subst hj; simp [Addr.add]
  | 2, hj => simp at hj; subst hj; simp [Addr.add]
  | 3, hj => simp at hj; subst hj; simp [Addr.add]
  | 4, hj => simp at hj; subst hj; simp [Addr.add]
  | 5, hj => simp at hj; subst hj; simp [Addr.add]
  | 6, hj => simp at hj; subst hj; simp [Addr.add]
theorem owns_form {w : World} {B t s n : Nat} {v : Value} {xs : List Value} (h : w.ownsRow B t s v n xs) : ∃ x c, v = .slice x n c := by
  rcases h.2 with ⟨e, e2⟩ | ⟨g, c, cur, rfl, _⟩
  · exact ⟨none, 0, by rw [e, e2]⟩
  · exact ⟨_, _, rfl⟩
theorem owns_below {w w' : World} {B B' t s n : Nat} {v : Value} {xs : List Value} (h : w.ownsRow B t s v n xs) (hb : Below B' w w') (hB : w.heap.size ≤ B') : w'.ownsRow B t s v n xs :=
  owns_keep' h fun g hg => hb.block g (Nat.lt_of_lt_of_le (h.lt g hg).2 hB)
/-- What is said of a value that is one cell. -/
def OneC (v : Value) : Prop := v.oneCell' = true

def ShPost (k n c m : Nat) (f : Nat → Ent) (d : Ent → List UInt8) (w : World) (r : Ending) (w' : World) : Prop :=
  Below w.heap.size w w' ∧ ∃ (f' : Nat → Ent) (bN bZ : Option Addr) (cN cZ bS cS : Nat) (a : Nat → Option Addr) (cp : Nat → Nat), Rearr m f f' ∧ Srt m f' ∧ r = .returned (.slice (some ⟨bS, 0, none⟩) n cS) ∧ w'.ownsRow w.heap.size 9 1 (.slice bN m cN) m (nameV (namesOf m f')) ∧ w'.ownsRow w.heap.size 3 1 (.slice bZ m cZ) m (intV (sizesOf m f')) ∧
    w'.ownsRow w.heap.size 36 7 (.slice (some ⟨bS, 0, none⟩) n cS) n (shL k n c (.slice bN m cN) (.slice bZ m cZ) (lenC k (joinD (fun j => d (f' j)) m).length) a cp n) ∧
    ∀ i, i < n → w'.ownsRow w.heap.size 5 1 (.slice (a i) (lenC k (joinD (fun j => d (f' j)) m).length) (cp i)) (lenC k (joinD (fun j => d (f' j)) m).length) (numsV (lenC k (joinD (fun j => d (f' j)) m).length) fun q => dotN (rowV k i) (fun j => xAt (joinD (fun j => d (f' j)) m) (lenC k (joinD (fun j => d (f' j)) m).length) j q) k)

set_option maxHeartbeats 8000000 in
set_option maxRecDepth 100000 in
theorem shards_any (k n c m cap : Nat) (bo : Option Addr) (f : Nat → Ent) (d : Ent → List UInt8) (w : World) (hk0 : 1 ≤ k) (hkn : k ≤ n) (hn : n ≤ 128) (hm : m ≤ 1048576) (hcap : m ≤ cap) (hbo : bo = none → cap = 0) (hB : BC w bo m f) (hD : ∀ i, i < m → DataAt w (f i) (d (f i)))
    (hT : ∀ f', Rearr m f f' → Srt m f' → (joinD (fun j => d (f' j)) m).length ≤ 65536) :
    Calls Tryd.prog 37 #[.slice bo m cap, .agg #[.int .i64 ((k : Nat) : Int), .int .i64 ((n : Nat) : Int), .int .i64 ((c : Nat) : Int)]] w fun r w' => ShPost k n c m f d w r w' := by
  obtain ⟨i0, hi0, hz0, hz1, hz2⟩ := info_parts Tryd.infoSh
  have hr0 := RowAt.made w [.int .i64 ((k : Nat) : Int), .int .i64 ((n : Nat) : Int), .int .i64 ((c : Nat) : Int)] 28
  have hb0 := (Below.refl w.heap.size w).alloc (Nat.le_refl _) (.cells #[.int .i64 ((k : Nat) : Int), .int .i64 ((n : Nat) : Int), .int .i64 ((c : Nat) : Int)] 28)
  have s0 : (w.alloc (.cells #[.int .i64 ((k : Nat) : Int), .int .i64 ((n : Nat) : Int), .int .i64 ((c : Nat) : Int)] 28)).heap.size = w.heap.size + 1 := by simp
  have c0 := hr0.cell (i := 0) rfl
  have ks := colsR_any k m cap bo f d (w.alloc (.cells #[.int .i64 ((k : Nat) : Int), .int .i64 ((n : Nat) : Int), .int .i64 ((c : Nat) : Int)] 28)) hk0 (by omega) hm hcap hbo (hB.up (by simp) fun h => below_cell hb0 (Nat.le_refl _) h) (fun i hi => (hD i hi).grow (by simp) fun h => below_cell hb0 (Nat.le_refl _) h) hT
  have hDl : ∀ f', Rearr m f f' → ∀ i, i < m → (d (f' i)).length = (f' i).l := fun f' hR i hi => by
    obtain ⟨j, hj, e⟩ := hR.from hi
    rw [e]
    exact (hD j hj).1
  clear hB hD hcap hbo
  go_enter Tryd.func37, Tryd.ntmps37
  go_wp2_with (first
    | (go_at_call 66; (with_reducible refine ks.mono ?_); rintro r w1 ⟨b1, f', vN, vS, bP, cP, a0, bl0, cp0, hR, hS, rfl, hvN, hvS, hC⟩; clear ks
       have ht := hT f' hR hS
       have hlens := hDl f' hR
       have hle : ∀ j, j < m → (f' j).l ≤ 65536 := fun j hj => (by
         have h1 := joinD_le (fun j => d (f' j)) (i := j + 1) (n := m) (by omega)
         simp only [joinD, List.length_append] at h1
         have := hlens j hj
         omega)
       have htot := tot_sizes d f' m hlens
       have hr1 := hr0.later (S := fun _ => False) (.of_below b1) (by simp) id
       have hb1 := hb0.trans (b1.mono (by simp))
       have hs1 := hb1.size
       have d0 := hr1.cell (i := 0) rfl
       have kl := lengthI_any (k : Int) k rfl hk0 (by omega) _ _ (by rw [sizesOf_length]; omega) (sizes_ok m f') (sizes_le m f' fun j hj => by have := hle j hj; omega) (by rw [htot]; exact ht) w1 (lies_owns hvS)
       rw [htot] at kl
       have hLb : lenC k (joinD (fun j => d (f' j)) m).length ≤ 65536 := (by
         have := lenC_le hk0 (joinD (fun j => d (f' j)) m).length
         omega)
       obtain ⟨bN, cN, rfl⟩ := owns_form hvN
       obtain ⟨bZ, cZ, rfl⟩ := owns_form hvS
       clear hDl hT hlens hle htot)
    | (go_at_call 43; (with_reducible refine kl.mono ?_); rintro r w' ⟨rfl, hw'⟩; obtain rfl := hw'.symm))
  clear kl
  have hvN' := hvN.mono (base' := w.heap.size) (by rw [s0]; omega)
  have hvS' := hvS.mono (base' := w.heap.size) (by rw [s0]; omega)
  have fin : ∀ (w2 : World) (bS cS : Nat) (a : Nat → Option Addr) (cp : Nat → Nat), Below w1.heap.size w1 w2 → w2.ownsRow w1.heap.size 36 7 (.slice (some ⟨bS, 0, none⟩) n cS) n (shL k n c (.slice bN m cN) (.slice bZ m cZ) (lenC k (joinD (fun j => d (f' j)) m).length) a cp n) → (∀ i, i < n → w2.ownsRow w1.heap.size 5 1 (.slice (a i) (lenC k (joinD (fun j => d (f' j)) m).length) (cp i)) (lenC k (joinD (fun j => d (f' j)) m).length) (numsV (lenC k (joinD (fun j => d (f' j)) m).length) fun q => dotN (rowV k i) (fun j => xAt (joinD (fun j => d (f' j)) m) (lenC k (joinD (fun j => d (f' j)) m).length) j q) k)) →
      ShPost k n c m f d w (.returned (.slice (some ⟨bS, 0, none⟩) n cS)) w2 := fun w2 bS cS a cp hb2 hV hcols =>
    ⟨hb1.trans (hb2.mono hs1), f', bN, bZ, cN, cZ, bS, cS, a, cp, hR, hS, rfl, owns_below hvN' hb2 (Nat.le_refl _), owns_below hvS' hb2 (Nat.le_refl _), hV.mono hs1, fun i hi => (hcols i hi).mono hs1⟩
  clear hvN hvS hvN' hvS' hR hS b1 hb1 hb0 hr0 c0 d0
  generalize hL : lenC k (joinD (fun j => d (f' j)) m).length = L at *
  generalize hl : joinD (fun j => d (f' j)) m = l at *
  have p1 : w1.ownsRow w1.heap.size 36 7 (.slice none 0 0) 0 (shL k n c (.slice bN m cN) (.slice bZ m cZ) L (fun _ => none) (fun _ => 0) 0) := World.ownsRow_nil _ _ _ _
  have hr2 := hr1
  have hbpl : w.heap.size < w1.heap.size := by have := hr1.lt; exact this
  clear hr1
  generalize hBs : w1.heap.size = B at *
  go_loopw [9, 10, 11] (fun vs vi _ wq => ∃ (j : Nat) (a : Nat → Option Addr) (cp : Nat → Nat), j ≤ n ∧ vi = .int .i64 ((j : Nat) : Int) ∧ wq.ownsRow B 36 7 vs j (shL k n c (.slice bN m cN) (.slice bZ m cZ) L a cp j) ∧ (∀ t, t < j → wq.ownsRow B 5 1 (.slice (a t) L (cp t)) L (numsV L fun q => dotN (rowV k t) (fun j => xAt l L j q) k)) ∧ Below B w1 wq) (fun _ vi _ _ => n - (intOf vi).toNat)
  case atStart => exact ⟨0, fun _ => none, fun _ => 0, by omega, rfl, p1, fun t ht => absurd ht (by omega), Below.refl _ _⟩
  case round =>
    clear p1
    obtain ⟨j, a, cp, hj, rfl, hV, hcols, hb⟩ := hrel
    have hs : B ≤ wr.heap.size := hBs ▸ hb.size
    have hr3 := hr2.later (S := fun _ => False) (.of_below hb) hbpl id
    have e1 := hr3.cell (i := 1) rfl
    by_cases hlt : j < n
    · have hlt' : (j : Int) < (n : Int) := by omega
      have e0 := hr3.cell (i := 0) rfl
      have krow := rrow_any k j (by omega) (by omega) wr
      have hC1 : Cls wr k L bP a0 bl0 cp0 (xAt l L) := hC.heap fun hc => below_cell hb (by omega) hc
      go_wp2_with (first
        | (go_at_call 68; (with_reducible refine krow.mono ?_); rintro r w2 ⟨vr, rfl, hvr, hb2⟩; obtain ⟨br, cr, rfl, _, _⟩ := hvr.form (by omega); have km := mixed_any k L br cr bP cP (rowV k j) a0 bl0 cp0 (xAt l L) w2 (fun t ht => (by rw [hvr.cellAt t (by omega)]; simp [ht])) (fun _ => rowV_lt) (fun _ _ => bAt_lt _ _) (hC1.heap fun hc => below_cell hb2 (Nat.le_refl _) hc) (by omega) (by omega); have hs2 := hb2.size; have hV2 := owns_below hV hb2 (Nat.le_refl _); have hcols2 := fun t ht => owns_below (hcols t ht) hb2 (Nat.le_refl _); have hbw2 := hb.trans (hb2.mono hs); clear krow hvr hV hcols hb hr3 e1 e0)
        | (go_at_call 67; (with_reducible refine km.mono ?_); rintro r w3 ⟨vc, rfl, hvc, hb3⟩; obtain ⟨xc, cc, rfl⟩ := owns_form hvc; have hs3 := hb3.size; have hV3 := owns_below hV2 hb3 (Nat.le_refl _); have hcols3 := fun t ht => owns_below (hcols2 t ht) hb3 (Nat.le_refl _); have hvc3 := hvc.mono (base' := B) (by omega); have hbw3 := hbw2.trans (hb3.mono (by omega)); have hr4 := hr2.later (S := fun _ => False) (.of_below hbw3) hbpl id; have g0 := hr4.cell (i := 0) rfl; have g1 := hr4.cell (i := 1) rfl; have g2 := hr4.cell (i := 2) rfl; clear km hvc hV2 hcols2 hbw2 hb2 hb3)
        | (at_builtin; refine wpList_append_own _ rfl _ _ 89 rfl B 36 i0 _ 7 104 Tryd.underlying89 hi0 hz0 hz1 hz2 rfl (by decide) _ _ _ rfl (hV3.alloc _) ⟨w3.heap.size, 0, none⟩ 1 1 [.int .i64 ((k : Nat) : Int), .int .i64 ((n : Nat) : Int), .int .i64 ((j : Nat) : Int), .int .i64 ((c : Nat) : Int), .slice bN m cN, .slice bZ m cZ, .slice xc L cc] rfl rfl (cell_seven_new _ _ _ _ _ _ _ _ _) (by intro u hu; simp at hu; rcases hu with rfl | rfl | rfl | rfl | rfl | rfl | rfl <;> rfl) (by unfold maxLen; omega) (by omega) (by simp; omega) ?_; intro v4 w4 hV4 hgrow _))
      have hb4 := hbw3.trans (app_below hV3 (by omega) ((Below.refl _ _).alloc (Nat.le_refl _) _) hgrow (Nat.le_refl _))
      have kp : ∀ {v : Value} {q : Nat} {xs : List Value}, w3.ownsRow B 5 1 v q xs → w4.ownsRow B 5 1 v q xs := fun h => app_keep hV3 h (by decide) ((Below.refl _ _).alloc (Nat.le_refl _) _) hgrow
      have hc4 := kp hvc3
      have hcols4 := fun t ht => kp (hcols3 t ht)
      clear hgrow hV3 hbw3 hcols3 hvc3 kp hr4 g0 g1 g2
      have hV5 : w4.ownsRow B 36 7 v4 (j + 1) (shL k n c (.slice bN m cN) (.slice bZ m cZ) L (fun t => if t = j then xc else a t) (fun t => if t = j then cc else cp t) (j + 1)) := by
        rw [shL_succ, shL_congr (a' := a) (cp' := cp) j (fun i hi => ⟨if_neg (by omega), if_neg (by omega)⟩)]
        simpa [shC] using hV4
      clear hV4
      go_roundw
      case rel => exact ⟨j + 1, _, _, by omega, by go_num, hV5, fun t ht => by
        by_cases e : t = j
        · subst e
          simpa using hc4
        · simpa [e] using hcols4 t (by omega), hb4⟩
      case measure => simp [intOf]; omega
    · have hjk : j = n := by omega
      rw [hjk] at hV hcols ⊢
      clear hj hlt hjk
      have hnl2 : ¬ ((n : Int) < (n : Int)) := by omega
      obtain ⟨bS, cS, rfl, _, _⟩ := hV.form (by omega)
      have hfin := fin wr bS cS a cp hb hV hcols
      clear hcols hV fin
      go_wp2
      go_ret
      exact hfin
end Go.Proofs.YtkpcmfgeanlcnaaDoor

/-
  The document's columns of blobs: run alone. First the names, the sizes, the bytes.
-/
import Derived.Test.YtkpcmfgeanlcnaaDoorEnF
import Derived.Test.YtkpcmfgeanlcnaaDoorEnG
import Derived.Test.YtkpcmfgeanlcnaaDoorWrM
namespace Go.Proofs.YtkpcmfgeanlcnaaDoor
open Go.RowKit Go.Deep Go.Hp

theorem Tryd.infoCol : (Tryd.prog.info? 24).map (fun i => (i.zero, i.size, i.bytes)) = some (some (.slice none 0 0), 1, 24) := by kernel_rfl
theorem DataAt.grow {w w' : World} {e : Ent} {d : List UInt8} (h : DataAt w e d) (_hs : w.heap.size ≤ w'.heap.size) (up : ∀ {b o : Nat} {u : Value}, w.cell? ⟨b, o, none⟩ = some u → w'.cell? ⟨b, o, none⟩ = some u) : DataAt w' e d := by
  refine ⟨h.1, ?_⟩
  rcases h.2 with h2 | ⟨ad, h2, h4⟩
  · exact .inl h2
  · refine .inr ⟨ad, h2, fun j u hj => ?_⟩
    have h5 := h4 j u hj
    have hspot := World.cell?_spot h5
    generalize ad.add j = p at h5 hspot ⊢
    obtain ⟨b, o, sp⟩ := p
    dsimp only at hspot
    subst hspot
    exact up h5
theorem BC.up {w w' : World} {bo : Option Addr} {n : Nat} {f : Nat → Ent} (h : BC w bo n f) (hs : w.heap.size ≤ w'.heap.size) (up : ∀ {b o : Nat} {u : Value}, w.cell? ⟨b, o, none⟩ = some u → w'.cell? ⟨b, o, none⟩ = some u) : BC w' bo n f := ⟨fun hn => by
  obtain ⟨b, o, h1, h2, h3⟩ := h.here hn
  exact ⟨b, o, h1, Nat.lt_of_lt_of_le h2 hs, fun i hi => ⟨up (h3 i hi).1, up (h3 i hi).2⟩⟩⟩
/-- A byte of a list, nought behind its end. -/
def xAt (l : List UInt8) (L j m : Nat) : Nat := bAt l (j * L + m)
theorem cell_of_block {w : World} {b m : Nat} {cur : Array Value} {t : TypeId} {u : Value} (h : w.heap[b]? = some (.cells cur t)) (hc : cur[m]? = some u) : w.cell? ⟨b, m, none⟩ = some u := by
  simp [World.cell?, h, hc]
theorem lies_owns {w : World} {B t n : Nat} {v : Value} {xs : List Value} (h : w.ownsRow B t 1 v n xs) : Lies w v xs := by
  have hl := h.1
  rcases h.2 with ⟨rfl, rfl⟩ | ⟨g, cap, cur, rfl, h2, h3, h4, _⟩
  · have : xs = [] := List.length_eq_zero_iff.1 (by omega)
    subst this
    exact ⟨none, 0, rfl, Nat.le_refl _, fun j u hj => by simp at hj⟩
  · have e : n = xs.length := by omega
    refine ⟨some ⟨g, 0, none⟩, cap, by rw [e], by omega, fun j u hj => ⟨g, 0, rfl, ?_⟩⟩
    have hjl : j < n * 1 := by
      have := (List.getElem?_eq_some_iff.1 hj).1
      omega
    rw [Nat.zero_add, h.cellAt j hjl]
    exact hj
theorem tot_sizes (d : Ent → List UInt8) (f : Nat → Ent) : ∀ n, (∀ i, i < n → (d (f i)).length = (f i).l) → tot (sizesOf n f) = (joinD (fun j => d (f j)) n).length
  | 0, _ => rfl
  | n + 1, h => by
    have ih := tot_sizes d f n fun i hi => h i (by omega)
    have e : sizesOf (n + 1) f = sizesOf n f ++ [((f n).l : Int)] := by simp [sizesOf, List.range_succ]
    rw [e]
    unfold tot at *
    simp only [List.map_append, List.sum_append, List.map_cons, List.map_nil, List.sum_cons, List.sum_nil, joinD, List.length_append, h n (by omega), ih]
    simp
theorem sizes_ok (n : Nat) (f : Nat → Ent) : SizesOk (sizesOf n f) := fun i hi => by
  rw [sizesOf_length] at hi
  simp [sizesOf, List.getD_eq_getElem?_getD, hi]
theorem sizes_le (n : Nat) (f : Nat → Ent) (h : ∀ i, i < n → (f i).l ≤ 9223372036854775807) (i : Nat) : (sizesOf n f).getD i 0 ≤ 9223372036854775807 := by
  by_cases hi : i < n
  · simp [sizesOf, List.getD_eq_getElem?_getD, hi]
    have := h i hi
    omega
  · simp [sizesOf, List.getD_eq_getElem?_getD, hi]
theorem bAt_end {l : List UInt8} {i : Nat} (h : l.length ≤ i) : bAt l i = 0 := by
  unfold bAt
  rw [List.getD_eq_getElem?_getD, List.getElem?_eq_none h]
  rfl
def colsV (n : Nat) (a : Nat → Option Addr) (L : Nat) (cp : Nat → Nat) : List Value := (List.range n).map fun j => .slice (a j) L (cp j)
theorem colsV_length (n : Nat) (a : Nat → Option Addr) (L : Nat) (cp : Nat → Nat) : (colsV n a L cp).length = n := by simp [colsV]
theorem colsV_get (n : Nat) (a : Nat → Option Addr) (L : Nat) (cp : Nat → Nat) {j : Nat} (h : j < n) : (colsV n a L cp)[j]? = some (.slice (a j) L (cp j)) := by simp [colsV, h]
theorem colsV_snoc (n : Nat) (a : Nat → Option Addr) (L : Nat) (cp : Nat → Nat) (x : Option Addr) (c : Nat) : colsV (n + 1) (fun t => if t = n then x else a t) L (fun t => if t = n then c else cp t) = colsV n a L cp ++ [.slice x L c] := by
  unfold colsV
  rw [List.range_succ, List.map_append]
  congr 1
  · apply List.map_congr_left
    intro t ht
    have := List.mem_range.1 ht
    dsimp only
    rw [if_neg (by omega), if_neg (by omega)]
  · simp
theorem one_colD (x : Option Addr) (l c : Nat) : ∀ u ∈ [Value.slice x l c], u.oneCell' = true := by
  intro u hu
  simp at hu
  subst hu
  rfl
/-- The form of a column that was made. -/
theorem col_form {w : World} {B n : Nat} {v : Value} {f : Nat → Nat} (h : w.ownsRow B 5 1 v n (numsV n f)) : ∃ x c g, v = .slice x n c ∧ (0 < n → ∃ cur : Array Value, x = some ⟨g, 0, none⟩ ∧ w.heap[g]? = some (.cells cur 5) ∧ ∀ m, m < n → cur[m]? = some (.int .u8 ((f m : Nat) : Int))) := by
  rcases h.2 with ⟨e, e2⟩ | ⟨g, cap, cur, rfl, h2, h3, h4, _⟩
  · exact ⟨none, 0, 0, by rw [e, e2], fun h0 => absurd h0 (by omega)⟩
  · refine ⟨_, _, g, rfl, fun _ => ⟨cur, rfl, h3, fun m hm => ?_⟩⟩
    have := h.cellAt m (by omega)
    rw [numsV_get n f hm] at this
    simpa [World.cell?, h3] using this
def lists (h : Nat) (wr : World) (i : Nat) (f : Nat → Ent) (d : Ent → List UInt8) (va vb vc : Value) : Prop :=
  wr.ownsRow h 9 1 va i (nameV (namesOf i f)) ∧ wr.ownsRow h 3 1 vb i (intV (sizesOf i f)) ∧ wr.ownsRow h 5 1 vc (joinD (fun j => d (f j)) i).length (u8V (joinD (fun j => d (f j)) i))

def ColsPost (k n : Nat) (f : Nat → Ent) (d : Ent → List UInt8) (w : World) (r : Ending) (w' : World) : Prop :=
  Below w.heap.size w w' ∧ ∃ (f' : Nat → Ent) (vN vS : Value) (bP cP : Nat) (a : Nat → Option Addr) (bl cp : Nat → Nat), Rearr n f f' ∧ Srt n f' ∧ r = .returned (.tuple #[.slice (some ⟨bP, 0, none⟩) k cP, vN, vS]) ∧ w'.ownsRow w.heap.size 9 1 vN n (nameV (namesOf n f')) ∧ w'.ownsRow w.heap.size 3 1 vS n (intV (sizesOf n f')) ∧
    Cls w' k (lenC k (joinD (fun j => d (f' j)) n).length) bP a bl cp (xAt (joinD (fun j => d (f' j)) n) (lenC k (joinD (fun j => d (f' j)) n).length))

set_option maxHeartbeats 8000000 in
set_option maxRecDepth 100000 in
theorem colsR_any (k n cap : Nat) (bo : Option Addr) (f : Nat → Ent) (d : Ent → List UInt8) (w : World) (hk0 : 1 ≤ k) (hk : k ≤ 128) (hn : n ≤ 1048576) (hcap : n ≤ cap) (hbo : bo = none → cap = 0) (hB : BC w bo n f) (hD : ∀ i, i < n → DataAt w (f i) (d (f i)))
    (hT : ∀ f', Rearr n f f' → Srt n f' → (joinD (fun j => d (f' j)) n).length ≤ 65536) :
    Calls Tryd.prog 66 #[.slice bo n cap, .int .i64 ((k : Nat) : Int)] w fun r w' => ColsPost k n f d w r w' := by
  obtain ⟨i0, hi0, hz0, hz1, hz2⟩ := info_parts Tryd.infoNm
  obtain ⟨i1, hi1, hy0, hy1, hy2⟩ := info_parts Tryd.infoIn
  obtain ⟨i2, hi2, hx0, hx1, hx2⟩ := info_parts infoB8
  have ks := sorted_any n cap bo f w hn hcap hbo hB
  have keep : ∀ f', Rearr n f f' → ∀ i, i < n → DataAt w (f' i) (d (f' i)) := fun f' hR i hi => by
    obtain ⟨j, hj, e⟩ := hR.from hi
    rw [e]
    exact hD j hj
  clear hD hB hcap hbo
  go_enter Tryd.func66, Tryd.ntmps66
  go_wp2_with (first | (go_at_call 34; (with_reducible refine ks.mono ?_); rintro r w1 ⟨b1, f', v, rfl, hR, hS, hO⟩))
  obtain ⟨bo', cap', rfl, _, _, hB1⟩ := BC.of_owns hO
  have hD1 := fun i hi => (keep f' hR i hi).below b1 (Nat.le_refl _)
  have ht := hT f' hR hS
  have hO' : w1.heap.size ≥ w.heap.size := b1.size
  clear ks keep hT hO
  have p0 : lists w1.heap.size w1 0 f' d (.slice none 0 0) (.slice none 0 0) (.slice none 0 0) := ⟨World.ownsRow_nil _ _ _ _, World.ownsRow_nil _ _ _ _, World.ownsRow_nil _ _ _ _⟩
  generalize hh : w1.heap.size = h at *
  go_loopw [8, 9, 10, 11] (fun va vb vc vi wr => ∃ (i : Nat), i ≤ n ∧ vi = .int .i64 ((i : Nat) : Int) ∧ lists h wr i f' d va vb vc ∧ Below h w1 wr) (fun _ _ _ vi _ => n - (intOf vi).toNat)
  case atStart => exact ⟨0, by omega, rfl, p0, Below.refl _ _⟩
  case round =>
    clear p0
    obtain ⟨i, hi, rfl, ⟨hp, hq, ho⟩, hb⟩ := hrel
    have hs : h ≤ wr.heap.size := hh ▸ hb.size
    by_cases hlt : i < n
    · have hlt' : (i : Int) < (n : Int) := by omega
      obtain ⟨b, o, rfl, hbl, hcell⟩ := hB1.here (by omega)
      have cells : ∀ w', Below h w1 w' → w'.cell? ⟨b, o + i * 2, none⟩ = some (.string ⟨(f' i).k.toArray⟩) ∧ w'.cell? ⟨b, o + i * 2 + 1, none⟩ = some (.slice (f' i).a (f' i).l (f' i).c) := fun w' hb' => ⟨below_cell hb' (by omega) (hcell i hlt).1, below_cell hb' (by omega) (hcell i hlt).2⟩
      obtain ⟨c0, _⟩ := cells wr hb
      obtain ⟨hdl, hd⟩ := hD1 i hlt
      have hlen : (joinD (fun j => d (f' j)) i).length + (d (f' i)).length ≤ 65536 := by
        have := joinD_le (fun j => d (f' j)) (i := i + 1) (n := n) (by omega)
        simp only [joinD, List.length_append] at this
        omega
      clear hcell
      rcases hd with ⟨ea, el, ec⟩ | ⟨ad, ea, hcd⟩
      · have hnil : d (f' i) = [] := List.length_eq_zero_iff.1 (by omega)
        have hsz := sizesV_succ i f'
        rw [el] at hsz
        rw [ea, el, ec] at cells
        have HS : Hid _ := hsz
        clear hdl ea el ec hsz
        go_wp2_with (first
          | (at_builtin; refine wpList_append_own _ rfl _ _ 33 rfl h 9 i0 (.string ⟨#[]⟩) 1 16 Tryd.underlying33 hi0 hz0 hz1 hz2 rfl (by decide) _ _ _ rfl (hp.alloc _) ⟨wr.heap.size, 0, none⟩ 1 1 [.string ⟨(f' i).k.toArray⟩] rfl rfl (cell_one_newD _ _ _) (one_strD _) (by unfold maxLen; omega) (by omega) (by simp; omega) ?_; intro v2 w2 hp2 hgrow _; have hq2 := app_keep hp hq (by decide) ((Below.refl wr.heap.size wr).alloc (Nat.le_refl _) _) hgrow; have ho2 := app_keep hp ho (by decide) ((Below.refl wr.heap.size wr).alloc (Nat.le_refl _) _) hgrow; have hb2 := hb.trans (app_below hp hs ((Below.refl wr.heap.size wr).alloc (Nat.le_refl _) _) hgrow (Nat.le_refl _)); have hs2 : h ≤ w2.heap.size := hh ▸ hb2.size; have c2 := (cells w2 hb2).2; clear hgrow hp hq ho hb hs c0)
          | (at_builtin; refine wpList_append_own _ rfl _ _ 34 rfl h 3 i1 (.int .i64 0) 1 8 Tryd.underlying34 hi1 hy0 hy1 hy2 rfl (by decide) _ _ _ rfl (hq2.alloc _) ⟨w2.heap.size, 0, none⟩ 1 1 [.int .i64 ((0 : Nat) : Int)] rfl rfl (cell_one_newD _ _ _) (one_intD _) (by unfold maxLen; omega) (by omega) (by simp; omega) ?_; intro v3 w3 hq3 hgrow _; have hp3 := app_keep hq2 hp2 (by decide) ((Below.refl w2.heap.size w2).alloc (Nat.le_refl _) _) hgrow; have ho3 := app_keep hq2 ho2 (by decide) ((Below.refl w2.heap.size w2).alloc (Nat.le_refl _) _) hgrow; have hb3 := hb2.trans (app_below hq2 hs2 ((Below.refl w2.heap.size w2).alloc (Nat.le_refl _) _) hgrow (Nat.le_refl _)); have hs3 : h ≤ w3.heap.size := hh ▸ hb3.size; have c3 := (cells w3 hb3).2; clear hgrow hq2 hp2 ho2 hb2 hs2 c2)
          | (at_builtin; refine wpList_append_own_none rfl _ _ 24 rfl h 5 i2 1 Tryd.underlying24 hi2 _ _ _ rfl ho3 rfl ?_))
        go_roundw
        case rel => exact ⟨i + 1, by omega, by go_num, ⟨by rw [namesV_succ]; exact hp3, by rw [HS.out]; exact hq3, by simp only [joinD, hnil, List.append_nil]; exact ho3⟩, hb3⟩
        case measure => simp [intOf]; omega
      · rw [ea] at cells
        clear ea
        go_wp2_with (first
          | (at_builtin; refine wpList_append_own _ rfl _ _ 33 rfl h 9 i0 (.string ⟨#[]⟩) 1 16 Tryd.underlying33 hi0 hz0 hz1 hz2 rfl (by decide) _ _ _ rfl (hp.alloc _) ⟨wr.heap.size, 0, none⟩ 1 1 [.string ⟨(f' i).k.toArray⟩] rfl rfl (cell_one_newD _ _ _) (one_strD _) (by unfold maxLen; omega) (by omega) (by simp; omega) ?_; intro v2 w2 hp2 hgrow _; have hq2 := app_keep hp hq (by decide) ((Below.refl wr.heap.size wr).alloc (Nat.le_refl _) _) hgrow; have ho2 := app_keep hp ho (by decide) ((Below.refl wr.heap.size wr).alloc (Nat.le_refl _) _) hgrow; have hb2 := hb.trans (app_below hp hs ((Below.refl wr.heap.size wr).alloc (Nat.le_refl _) _) hgrow (Nat.le_refl _)); have hs2 : h ≤ w2.heap.size := hh ▸ hb2.size; have c2 := (cells w2 hb2).2; clear hgrow hp hq ho hb hs c0)
          | (at_builtin; refine wpList_append_own _ rfl _ _ 34 rfl h 3 i1 (.int .i64 0) 1 8 Tryd.underlying34 hi1 hy0 hy1 hy2 rfl (by decide) _ _ _ rfl (hq2.alloc _) ⟨w2.heap.size, 0, none⟩ 1 1 [.int .i64 ((f' i).l : Int)] rfl rfl (cell_one_newD _ _ _) (one_intD _) (by unfold maxLen; omega) (by omega) (by simp; omega) ?_; intro v3 w3 hq3 hgrow _; have hp3 := app_keep hq2 hp2 (by decide) ((Below.refl w2.heap.size w2).alloc (Nat.le_refl _) _) hgrow; have ho3 := app_keep hq2 ho2 (by decide) ((Below.refl w2.heap.size w2).alloc (Nat.le_refl _) _) hgrow; have hb3 := hb2.trans (app_below hq2 hs2 ((Below.refl w2.heap.size w2).alloc (Nat.le_refl _) _) hgrow (Nat.le_refl _)); have hs3 : h ≤ w3.heap.size := hh ▸ hb3.size; have c3 := (cells w3 hb3).2; clear hgrow hq2 hp2 ho2 hb2 hs2 c2)
          | (at_builtin; refine wpList_append_own _ rfl _ _ 24 rfl h 5 i2 (.int .u8 0) 1 1 Tryd.underlying24 hi2 hx0 hx1 hx2 rfl (by decide) _ _ _ rfl ho3 ad (f' i).l (f' i).c (u8V (d (f' i))) rfl (by simp [u8V]; omega) (fun j u hj => (hb3.cell (p := ad.add j) (by have := cell_lt (hcd j u hj); omega)).trans (hcd j u hj)) (u8V_oneD _) (by unfold maxLen; omega) (by omega) hs3 ?_; intro v4 w4 ho4 hgrow _; have hp4 := app_keep ho3 hp3 (by decide) (Below.refl _ _) hgrow; have hq4 := app_keep ho3 hq3 (by decide) (Below.refl _ _) hgrow; have hb4 := hb3.trans (app_below ho3 hs3 (Below.refl _ _) hgrow (Nat.le_refl _)); clear hgrow ho3 hp3 hq3 hb3))
        go_roundw
        case rel => exact ⟨i + 1, by omega, by go_num, ⟨by rw [namesV_succ]; exact hp4, by rw [sizesV_succ]; exact hq4, by rw [show (joinD (fun j => d (f' j)) (i + 1)).length = (joinD (fun j => d (f' j)) i).length + (f' i).l by simp [joinD, hdl], show u8V (joinD (fun j => d (f' j)) (i + 1)) = u8V (joinD (fun j => d (f' j)) i) ++ u8V (d (f' i)) by simp [joinD, u8V]]; exact ho4⟩, hb4⟩
        case measure => simp [intOf]; omega
    · obtain rfl : i = n := by omega
      have hnl : ¬ ((i : Int) < (i : Int)) := by omega
      have hlens : ∀ j, j < i → (d (f' j)).length = (f' j).l := fun j hj => (hD1 j hj).1
      have hle : ∀ j, j < i → (f' j).l ≤ 65536 := fun j hj => by
        have h1 := joinD_le (fun j => d (f' j)) (i := j + 1) (n := i) (by omega)
        simp only [joinD, List.length_append] at h1
        have := hlens j hj
        omega
      have htot := tot_sizes d f' i hlens
      have kl := lengthI_any (k : Int) k rfl hk0 (by omega) _ _ (by rw [sizesOf_length]; omega) (sizes_ok i f') (sizes_le i f' fun j hj => by have := hle j hj; omega) (by rw [htot]; exact ht) wr (lies_owns hq)
      rw [htot] at kl
      have hbw : Below w.heap.size w wr := b1.trans (hb.mono (by omega))
      have hLb : lenC k (joinD (fun j => d (f' j)) i).length ≤ 65536 := by
        have := lenC_le hk0 (joinD (fun j => d (f' j)) i).length
        omega
      have hoF : ∀ m, m < (joinD (fun j => d (f' j)) i).length → ∃ g, (∃ c, u10 = .slice (some ⟨g, 0, none⟩) (joinD (fun j => d (f' j)) i).length c) ∧ g < wr.heap.size ∧ wr.cell? ⟨g, m, none⟩ = some (.int .u8 ((bAt (joinD (fun j => d (f' j)) i) m : Nat) : Int)) := fun m hm => by
        obtain ⟨g, c, e, _, hlt2⟩ := ho.form (by omega)
        refine ⟨g, ⟨c, e⟩, hlt2, ?_⟩
        subst e
        rw [ho.cellAt m (by omega)]
        exact u8V_get hm
      obtain ⟨bx, cx, rfl⟩ : ∃ bo c, u10 = .slice bo (joinD (fun j => d (f' j)) i).length c := by
        rcases ho.2 with ⟨e, e2⟩ | ⟨g, c, _, e, _⟩
        · exact ⟨none, 0, by rw [e, e2]⟩
        · exact ⟨_, _, e⟩
      go_wp2_with (first | (go_at_call 43; (with_reducible refine kl.mono ?_); rintro r w' ⟨rfl, hw'⟩; obtain rfl := hw'.symm))
      have hbxc : ∀ w2, Below wr.heap.size wr w2 → ∀ m, m < (joinD (fun j => d (f' j)) i).length → ∃ g, bx = some ⟨g, 0, none⟩ ∧ w2.cell? ⟨g, m, none⟩ = some (.int .u8 ((bAt (joinD (fun j => d (f' j)) i) m : Nat) : Int)) := fun w2 hb2 m hm => by
        obtain ⟨g, ⟨c, e⟩, _, hc⟩ := hoF m hm
        cases e
        exact ⟨g, rfl, below_cell hb2 (Nat.le_refl _) hc⟩
      have fin : ∀ (w2 : World) (bP cP : Nat) (a : Nat → Option Addr) (bl cp : Nat → Nat), Below wr.heap.size wr w2 → Cls w2 k (lenC k (joinD (fun j => d (f' j)) i).length) bP a bl cp (xAt (joinD (fun j => d (f' j)) i) (lenC k (joinD (fun j => d (f' j)) i).length)) → ColsPost k i f d w (.returned (.tuple #[.slice (some ⟨bP, 0, none⟩) k cP, u8, u9])) w2 := fun w2 bP cP a bl cp hb2 hC =>
        ⟨hbw.trans (hb2.mono hbw.size), f', _, _, bP, cP, a, bl, cp, hR, hS, rfl, (owns_keep' hp fun g hg => hb2.block g (hp.lt g hg).2).mono (by omega), (owns_keep' hq fun g hg => hb2.block g (hq.lt g hg).2).mono (by omega), hC⟩
      clear ho hoF kl htot hle hlens hR hS hD1 hB1 hp hq hb hbw hs
      generalize hL : lenC k (joinD (fun j => d (f' j)) i).length = L at *
      generalize hl : joinD (fun j => d (f' j)) i = l at *
      have p1 : wr.ownsRow wr.heap.size 24 1 (.slice none 0 0) 0 (colsV 0 (fun _ => none) L (fun _ => 0)) := World.ownsRow_nil _ _ _ _
      generalize hBs : wr.heap.size = B at *
      obtain ⟨i3, hi3, hw0, hw1, hw2⟩ := info_parts Tryd.infoCol
      go_loopw [13, 14] (fun vs vi wq => ∃ (j : Nat) (a : Nat → Option Addr) (bl cp : Nat → Nat), j ≤ k ∧ vi = .int .i64 ((j : Nat) : Int) ∧ wq.ownsRow B 24 1 vs j (colsV j a L cp) ∧ (∀ t, t < j → 0 < L → ∃ cur : Array Value, a t = some ⟨bl t, 0, none⟩ ∧ wq.heap[bl t]? = some (.cells cur 5) ∧ ∀ m, m < L → cur[m]? = some (.int .u8 ((xAt l L t m : Nat) : Int))) ∧ Below B wr wq) (fun _ vi _ => k - (intOf vi).toNat)
      case atStart => exact ⟨0, fun _ => none, fun _ => 0, fun _ => 0, by omega, rfl, p1, fun t ht => absurd ht (by omega), Below.refl _ _⟩
      case round =>
        clear p1
        obtain ⟨j, a, bl, cp, hj, rfl, hV, hcur, hbq⟩ := hrel
        have hsq : B ≤ wr.heap.size := hBs ▸ hbq.size
        by_cases hlt2 : j < k
        · have hlt2' : (j : Int) < (k : Int) := by omega
          obtain ⟨jL, hjL⟩ : ∃ jL, j * L = jL := ⟨_, rfl⟩
          have hmul : (j : Int) * (L : Int) = (jL : Int) := by rw [← hjL]; simp
          have hjb : jL ≤ 8388608 := by
            rw [← hjL]
            exact Nat.le_trans (Nat.mul_le_mul (show j ≤ 128 by omega) hLb) (by omega)
          have hxa : ∀ m, xAt l L j m = bAt l (jL + m) := fun m => by unfold xAt; rw [hjL]
          have HJ : Hid (j * L = jL) := hjL
          clear hjL
          have p2 : wr.ownsRow wr.heap.size 5 1 (.slice none 0 0) 0 (numsV 0 (xAt l L j)) := World.ownsRow_nil _ _ _ _
          have hbx2 : ∀ w2, Below wr.heap.size wr w2 → ∀ m, m < l.length → ∃ g, bx = some ⟨g, 0, none⟩ ∧ w2.cell? ⟨g, m, none⟩ = some (.int .u8 ((bAt l m : Nat) : Int)) := fun w2 hb2 => hbxc w2 (hbq.trans (hb2.mono hsq))
          go_wp2
          generalize hBj : wr.heap.size = Bj at *
          go_loopw [15, 16] (fun vs vm wq => ∃ (m : Nat), m ≤ L ∧ vm = .int .i64 ((m : Nat) : Int) ∧ wq.ownsRow Bj 5 1 vs m (numsV m (xAt l L j)) ∧ Below Bj wr wq) (fun _ vm _ => L - (intOf vm).toNat)
          case atStart => exact ⟨0, by omega, rfl, p2, Below.refl _ _⟩
          case round =>
            clear p2
            obtain ⟨m, hm, rfl, hpm, hbm⟩ := hrel
            have hsm : Bj ≤ wr.heap.size := hBj ▸ hbm.size
            by_cases hlt3 : m < L
            · have hlt3' : (m : Int) < (L : Int) := by omega
              have hstep := numsV_succ m (xAt l L j)
              rw [hxa m] at hstep
              by_cases hin : jL + m < l.length
              · have hin' : (jL : Int) + (m : Int) < (l.length : Int) := by omega
                obtain ⟨g, rfl, hc⟩ := hbx2 wr hbm (jL + m) hin
                generalize bAt l (jL + m) = D at *
                have HS : Hid _ := hstep
                clear hstep
                go_wp2_with (at_builtin; refine wpList_append_own _ rfl _ _ 24 rfl Bj 5 i2 (.int .u8 0) 1 1 Tryd.underlying24 hi2 hx0 hx1 hx2 rfl (by decide) _ _ _ rfl (hpm.alloc _) ⟨wr.heap.size, 0, none⟩ 1 1 [.int .u8 ((D : Nat) : Int)] rfl rfl (cell_one_newD _ _ _) (one_u8 _) (by unfold maxLen; omega) (by omega) (by simp; omega) ?_; intro v2 w2 hp2 hgrow _; have hb2 := hbm.trans (app_below hpm hsm ((Below.refl _ _).alloc (Nat.le_refl _) _) hgrow (Nat.le_refl _)); clear hgrow hpm hbm)
                go_roundw
                case rel => exact ⟨m + 1, by omega, by go_num, by rw [HS.out]; exact hp2, hb2⟩
                case measure => simp [intOf]; omega
              · have hin' : ¬ ((jL : Int) + (m : Int) < (l.length : Int)) := by omega
                rw [show bAt l (jL + m) = 0 from bAt_end (by omega)] at hstep
                have HS : Hid _ := hstep
                clear hstep
                go_wp2_with (at_builtin; refine wpList_append_own _ rfl _ _ 24 rfl Bj 5 i2 (.int .u8 0) 1 1 Tryd.underlying24 hi2 hx0 hx1 hx2 rfl (by decide) _ _ _ rfl (hpm.alloc _) ⟨wr.heap.size, 0, none⟩ 1 1 [.int .u8 ((0 : Nat) : Int)] rfl rfl (cell_one_newD _ _ _) (one_u8 _) (by unfold maxLen; omega) (by omega) (by simp; omega) ?_; intro v2 w2 hp2 hgrow _; have hb2 := hbm.trans (app_below hpm hsm ((Below.refl _ _).alloc (Nat.le_refl _) _) hgrow (Nat.le_refl _)); clear hgrow hpm hbm)
                go_roundw
                case rel => exact ⟨m + 1, by omega, by go_num, by rw [HS.out]; exact hp2, hb2⟩
                case measure => simp [intOf]; omega
            · have hmL : m = L := by omega
              rw [hmL] at hpm ⊢
              clear hm hlt3 hmL
              have hnl3 : ¬ ((L : Int) < (L : Int)) := by omega
              obtain ⟨x, c, g, rfl, hx⟩ := col_form hpm
              have hV1 := owns_keep' hV fun g hg => hbm.block g (by have := (hV.lt g hg).2; omega)
              have hcur1 : ∀ t, t < j → 0 < L → ∃ cur : Array Value, a t = some ⟨bl t, 0, none⟩ ∧ wr.heap[bl t]? = some (.cells cur 5) ∧ ∀ m, m < L → cur[m]? = some (.int .u8 ((xAt l L t m : Nat) : Int)) := fun t ht h0 => by
                obtain ⟨cur, q1, q2, q3⟩ := hcur t ht h0
                exact ⟨cur, q1, (hbm.block _ (by have := (Array.getElem?_eq_some_iff.1 q2).1; omega)).trans q2, q3⟩
              have hbw1 := hbq.trans (hbm.mono hsq)
              have hsw1 : B ≤ wr.heap.size := by omega
              clear hcur hV hbm hbq hpm hbx2
              go_wp2_with (at_builtin; refine wpList_append_own _ rfl _ _ 29 rfl B 24 i3 (.slice none 0 0) 1 24 Tryd.underlying29 hi3 hw0 hw1 hw2 rfl (by decide) _ _ _ rfl (hV1.alloc _) ⟨wr.heap.size, 0, none⟩ 1 1 [.slice x L c] rfl rfl (cell_one_newD _ _ _) (one_colD _ _ _) (by unfold maxLen; omega) (by omega) (by simp; omega) ?_; intro v2 w2 hV2 hgrow _)
              have hb2 := hbw1.trans (app_below hV1 hsw1 ((Below.refl _ _).alloc (Nat.le_refl _) _) hgrow (Nat.le_refl _))
              have kp : ∀ (b : Nat) (cur : Array Value), wr.heap[b]? = some (Obj.cells cur 5) → w2.heap[b]? = some (Obj.cells cur 5) := fun b cur hc => by
                have hlt := (Array.getElem?_eq_some_iff.1 hc).1
                refine ((hgrow.block b (by simp; omega) (fun e => ?_)).trans (Below.heap_alloc _ _ _ hlt)).trans hc
                obtain ⟨c1, f1, e1⟩ := Lib.ownsRow_kind hV1 b e.symm
                rw [hc] at e1
                cases e1
              clear hgrow hV1 hbw1
              rw [← colsV_snoc] at hV2
              go_roundw
              case rel => exact ⟨j + 1, _, fun t => if t = j then g else bl t, _, by omega, by go_num, hV2, fun t ht h0 => by
                by_cases e : t = j
                · subst e
                  obtain ⟨cur, q1, q2, q3⟩ := hx h0
                  exact ⟨cur, (by simpa using q1), (by simpa using kp _ _ q2), q3⟩
                · obtain ⟨cur, q1, q2, q3⟩ := hcur1 t (by omega) h0
                  exact ⟨cur, (by simpa [e] using q1), (by simpa [e] using kp _ _ q2), q3⟩, hb2⟩
              case measure => simp [intOf]; omega
        · have hjk : j = k := by omega
          rw [hjk] at hV hcur ⊢
          clear hj hlt2 hjk
          have hnl2 : ¬ ((k : Int) < (k : Int)) := by omega
          obtain ⟨bP, cP, rfl, _, _⟩ := hV.form (by omega)
          have hC : Cls wr k L bP a bl cp (xAt l L) := ⟨fun j hj => by rw [hV.cellAt j (by omega)]; exact colsV_get _ _ _ _ hj, fun j m hj hm => by
            obtain ⟨cur, q1, q2, q3⟩ := hcur j hj (by omega)
            exact ⟨q1, cell_of_block q2 (q3 m hm)⟩⟩
          have hfin := fin wr bP cP a bl cp hbq hC
          clear hcur hV hC fin
          go_wp2
          refine bodyPost_ret (results_tmp3 rfl _ _ _) rfl ?_
          exact hfin
end Go.Proofs.YtkpcmfgeanlcnaaDoor

/-
  The document's columns of blobs: run alone. First the names, the sizes, the bytes.
-/
import Derived.Test.YtlghjjennhpjeaaGreatDoorWrM
import Derived.Test.YtlghjjennhpjeaaGreatDoorEnC
import Derived.Test.YtlghjjennhpjeaaGreatDoorSvE
import Derived.BigQuiet
import Derived.KernelRfl
namespace Go.Proofs.YtlghjjennhpjeaaGreatDoor
open Go.RowKit Go.Deep Go.Hp

theorem Tryz.infoCol : (Tryz.prog.info? 24).map (fun i => (i.zero, i.size, i.bytes)) = some (some (.slice none 0 0), 1, 24) := by kernel_rfl
theorem DataAt.grow {w w' : World} {e : Ent} {d : List UInt8} (h : DataAt w e d) (_hs : w.heap.size ≤ w'.heap.size) (up : ∀ {b o : Nat} {u : Value}, w.cell? ⟨b, o, none⟩ = some u → w'.cell? ⟨b, o, none⟩ = some u) : DataAt w' e d := by
  refine ⟨h.1, ?_⟩
  rcases h.2 with h2 | ⟨ad, h2, h4⟩
  · exact .inl h2
  · refine .inr ⟨ad, h2, fun j u hj => ?_⟩
    have h5 := h4 j u hj
    have hspot := World.cell?_spot h5
    generalize ad.add j = p at h5 hspot ⊢
    obtain ⟨b, o, sp⟩ := p
    dsimp only at hspot
    subst hspot
    exact up h5
theorem BC.up {w w' : World} {bo : Option Addr} {n : Nat} {f : Nat → Ent} (h : BC w bo n f) (hs : w.heap.size ≤ w'.heap.size) (up : ∀ {b o : Nat} {u : Value}, w.cell? ⟨b, o, none⟩ = some u → w'.cell? ⟨b, o, none⟩ = some u) : BC w' bo n f := ⟨fun hn => by
  obtain ⟨b, o, h1, h2, h3⟩ := h.here hn
  exact ⟨b, o, h1, Nat.lt_of_lt_of_le h2 hs, fun i hi => ⟨up (h3 i hi).1, up (h3 i hi).2⟩⟩⟩
/-- A byte of a list, nought behind its end. -/
def xAt (l : List UInt8) (L j m : Nat) : Nat := bAt l (j * L + m)
theorem cell_of_block {w : World} {b m : Nat} {cur : Array Value} {t : TypeId} {u : Value} (h : w.heap[b]? = some (.cells cur t)) (hc : cur[m]? = some u) : w.cell? ⟨b, m, none⟩ = some u := by
  simp [World.cell?, h, hc]
theorem lies_owns {w : World} {B t n : Nat} {v : Value} {xs : List Value} (h : w.ownsRow B t 1 v n xs) : Lies w v xs := by
  have hl := h.1
  rcases h.2 with ⟨rfl, rfl⟩ | ⟨g, cap, cur, rfl, h2, h3, h4, _⟩
  · have : xs = [] := List.length_eq_zero_iff.1 (by omega)
    subst this
    exact ⟨none, 0, rfl, Nat.le_refl _, fun j u hj => by simp at hj⟩
  · have e : n = xs.length := by omega
    refine ⟨some ⟨g, 0, none⟩, cap, by rw [e], by omega, fun j u hj => ⟨g, 0, rfl, ?_⟩⟩
    have hjl : j < n * 1 := by
      have := (List.getElem?_eq_some_iff.1 hj).1
      omega
    rw [Nat.zero_add, h.cellAt j hjl]
    exact hj
theorem tot_sizes (d : Ent → List UInt8) (f : Nat → Ent) : ∀ n, (∀ i, i < n → (d (f i)).length = (f i).l) → tot (sizesOf n f) = (joinD (fun j => d (f j)) n).length
  | 0, _ => rfl
  | n + 1, h => by
    have ih := tot_sizes d f n fun i hi => h i (by omega)
    have e : sizesOf (n + 1) f = sizesOf n f ++ [((f n).l : Int)] := by simp [sizesOf, List.range_succ]
    rw [e]
    unfold tot at *
    simp only [List.map_append, List.sum_append, List.map_cons, List.map_nil, List.sum_cons, List.sum_nil, joinD, List.length_append, h n (by omega), ih]
    simp
theorem sizes_ok (n : Nat) (f : Nat → Ent) : SizesOk (sizesOf n f) := fun i hi => by
  rw [sizesOf_length] at hi
  simp [sizesOf, List.getD_eq_getElem?_getD, hi]
theorem sizes_le (n : Nat) (f : Nat → Ent) (h : ∀ i, i < n → (f i).l ≤ 9223372036854775807) (i : Nat) : (sizesOf n f).getD i 0 ≤ 9223372036854775807 := by
  by_cases hi : i < n
  · simp [sizesOf, List.getD_eq_getElem?_getD, hi]
    have := h i hi
    omega
  · simp [sizesOf, List.getD_eq_getElem?_getD, hi]
theorem bAt_end {l : List UInt8} {i : Nat} (h : l.length ≤ i) : bAt l i = 0 := by
  unfold bAt
  rw [List.getD_eq_getElem?_getD, List.getElem?_eq_none h]
  rfl
def colsV (n : Nat) (a : Nat → Option Addr) (L : Nat) (cp : Nat → Nat) : List Value := (List.range n).map fun j => .slice (a j) L (cp j)
theorem colsV_length (n : Nat) (a : Nat → Option Addr) (L : Nat) (cp : Nat → Nat) : (colsV n a L cp).length = n := by simp [colsV]
theorem colsV_get (n : Nat) (a : Nat → Option Addr) (L : Nat) (cp : Nat → Nat) {j : Nat} (h : j < n) : (colsV n a L cp)[j]? = some (.slice (a j) L (cp j)) := by simp [colsV, h]
theorem colsV_snoc (n : Nat) (a : Nat → Option Addr) (L : Nat) (cp : Nat → Nat) (x : Option Addr) (c : Nat) : colsV (n + 1) (fun t => if t = n then x else a t) L (fun t => if t = n then c else cp t) = colsV n a L cp ++ [.slice x L c] := by
  unfold colsV
  rw [List.range_succ, List.map_append]
  congr 1
  · apply List.map_congr_left
    intro t ht
    have := List.mem_range.1 ht
    dsimp only
    rw [if_neg (by omega), if_neg (by omega)]
  · simp
theorem one_colD (x : Option Addr) (l c : Nat) : ∀ u ∈ [Value.slice x l c], u.oneCell' = true := by
  intro u hu
  simp at hu
  subst hu
  rfl
/-- The form of a column that was made. -/
theorem col_form {w : World} {B n : Nat} {v : Value} {f : Nat → Nat} (h : w.ownsRow B 5 1 v n (numsV n f)) : ∃ x c g, v = .slice x n c ∧ (0 < n → ∃ cur : Array Value, x = some ⟨g, 0, none⟩ ∧ w.heap[g]? = some (.cells cur 5) ∧ ∀ m, m < n → cur[m]? = some (.int .u8 ((f m : Nat) : Int))) := by
  rcases h.2 with ⟨e, e2⟩ | ⟨g, cap, cur, rfl, h2, h3, h4, _⟩
  · exact ⟨none, 0, 0, by rw [e, e2], fun h0 => absurd h0 (by omega)⟩
  · refine ⟨_, _, g, rfl, fun _ => ⟨cur, rfl, h3, fun m hm => ?_⟩⟩
    have := h.cellAt m (by omega)
    rw [numsV_get n f hm] at this
    simpa [World.cell?, h3] using this
def lists (h : Nat) (wr : World) (i : Nat) (f : Nat → Ent) (d : Ent → List UInt8) (va vb vc : Value) : Prop :=
  wr.ownsRow h 9 1 va i (nameV (namesOf i f)) ∧ wr.ownsRow h 3 1 vb i (intV (sizesOf i f)) ∧ wr.ownsRow h 5 1 vc (joinD (fun j => d (f j)) i).length (u8V (joinD (fun j => d (f j)) i))

def ColsPost (k n : Nat) (f : Nat → Ent) (d : Ent → List UInt8) (w : World) (r : Ending) (w' : World) : Prop :=
  Below w.heap.size w w' ∧ ∃ (f' : Nat → Ent) (vN vS : Value) (bP cP : Nat) (a : Nat → Option Addr) (bl cp : Nat → Nat), Rearr n f f' ∧ Srt n f' ∧ r = .returned (.tuple #[.slice (some ⟨bP, 0, none⟩) k cP, vN, vS]) ∧ w'.ownsRow w.heap.size 9 1 vN n (nameV (namesOf n f')) ∧ w'.ownsRow w.heap.size 3 1 vS n (intV (sizesOf n f')) ∧
    Cls w' k (lenC k (joinD (fun j => d (f' j)) n).length) bP a bl cp (xAt (joinD (fun j => d (f' j)) n) (lenC k (joinD (fun j => d (f' j)) n).length))

set_option maxHeartbeats 8000000 in
set_option maxRecDepth 100000 in
theorem colsR_any (k n cap : Nat) (bo : Option Addr) (f : Nat → Ent) (d : Ent → List UInt8) (w : World) (hk0 : 1 ≤ k) (hk : k ≤ 128) (hn : n ≤ 1048576) (hcap : n ≤ cap) (hbo : bo = none → cap = 0) (hB : BC w bo n f) (hD : ∀ i, i < n → DataAt w (f i) (d (f i)))
    (hT : ∀ f', Rearr n f f' → Srt n f' → (joinD (fun j => d (f' j)) n).length ≤ 65536) :
    Calls Tryz.prog 39 #[.slice bo n cap, .int .i64 ((k : Nat) : Int)] w fun r w' => ColsPost k n f d w r w' := by
  obtain ⟨i0, hi0, hz0, hz1, hz2⟩ := info_parts Tryz.infoNm
  obtain ⟨i1, hi1, hy0, hy1, hy2⟩ := info_parts Tryz.infoIn
  obtain ⟨i2, hi2, hx0, hx1, hx2⟩ := info_parts infoB8
  have ks := sorted_any n cap bo f w hn hcap hbo hB
  have keep : ∀ f', Rearr n f f' → ∀ i, i < n → DataAt w (f' i) (d (f' i)) := fun f' hR i hi => by
    obtain ⟨j, hj, e⟩ := hR.from hi
    rw [e]
    exact hD j hj
  clear hD hB hcap hbo
  go_enter Tryz.func39, Tryz.ntmps39
  go_wp2_with (first | (go_at_call 64; (with_reducible refine ks.mono ?_); rintro r w1 ⟨b1, f', v, rfl, hR, hS, hO⟩))
  obtain ⟨bo', cap', rfl, _, _, hB1⟩ := BC.of_owns hO
  have hD1 := fun i hi => (keep f' hR i hi).below b1 (Nat.le_refl _)
  have ht := hT f' hR hS
  have hO' : w1.heap.size ≥ w.heap.size := b1.size
  clear ks keep hT hO
  have p0 : lists w1.heap.size w1 0 f' d (.slice none 0 0) (.slice none 0 0) (.slice none 0 0) := ⟨World.ownsRow_nil _ _ _ _, World.ownsRow_nil _ _ _ _, World.ownsRow_nil _ _ _ _⟩
  generalize hh : w1.heap.size = h at *
  go_loopw [8, 9, 10, 11] (fun va vb vc vi wr => ∃ (i : Nat), i ≤ n ∧ vi = .int .i64 ((i : Nat) : Int) ∧ lists h wr i f' d va vb vc ∧ Below h w1 wr) (fun _ _ _ vi _ => n - (intOf vi).toNat)
  case atStart => exact ⟨0, by omega, rfl, p0, Below.refl _ _⟩
  case round =>
    clear p0
    obtain ⟨i, hi, rfl, ⟨hp, hq, ho⟩, hb⟩ := hrel
    have hs : h ≤ wr.heap.size := hh ▸ hb.size
    by_cases hlt : i < n
    · have hlt' : (i : Int) < (n : Int) := by omega
      obtain ⟨b, o, rfl, hbl, hcell⟩ := hB1.here (by omega)
      have cells : ∀ w', Below h w1 w' → w'.cell? ⟨b, o + i * 2, none⟩ = some (.string ⟨(f' i).k.toArray⟩) ∧ w'.cell? ⟨b, o + i * 2 + 1, none⟩ = some (.slice (f' i).a (f' i).l (f' i).c) := fun w' hb' => ⟨below_cell hb' (by omega) (hcell i hlt).1, below_cell hb' (by omega) (hcell i hlt).2⟩
      obtain ⟨c0, _⟩ := cells wr hb
      obtain ⟨hdl, hd⟩ := hD1 i hlt
      have hlen : (joinD (fun j => d (f' j)) i).length + (d (f' i)).length ≤ 65536 := by
        have := joinD_le (fun j => d (f' j)) (i := i + 1) (n := n) (by omega)
        simp only [joinD, List.length_append] at this
        omega
      clear hcell
      rcases hd with ⟨ea, el, ec⟩ | ⟨ad, ea, hcd⟩
      · have hnil : d (f' i) = [] := List.length_eq_zero_iff.1 (by omega)
        have hsz := sizesV_succ i f'
        rw [el] at hsz
        rw [ea, el, ec] at cells
        have HS : Hid _ := hsz
        clear hdl ea el ec hsz
        go_wp2_with (first
          | (at_builtin; refine wpList_append_own _ rfl _ _ 22 rfl h 9 i0 (.string ⟨#[]⟩) 1 16 Tryz.underlying22 hi0 hz0 hz1 hz2 rfl (by decide) _ _ _ rfl (hp.alloc _) ⟨wr.heap.size, 0, none⟩ 1 1 [.string ⟨(f' i).k.toArray⟩] rfl rfl (cell_one_newD _ _ _) (one_strD _) (by unfold maxLen; omega) (by omega) (by simp; omega) ?_; intro v2 w2 hp2 hgrow _; have hq2 := app_keep hp hq (by decide) ((Below.refl wr.heap.size wr).alloc (Nat.le_refl _) _) hgrow; have ho2 := app_keep hp ho (by decide) ((Below.refl wr.heap.size wr).alloc (Nat.le_refl _) _) hgrow; have hb2 := hb.trans (app_below hp hs ((Below.refl wr.heap.size wr).alloc (Nat.le_refl _) _) hgrow (Nat.le_refl _)); have hs2 : h ≤ w2.heap.size := hh ▸ hb2.size; have c2 := (cells w2 hb2).2; clear hgrow hp hq ho hb hs c0)
          | (at_builtin; refine wpList_append_own _ rfl _ _ 34 rfl h 3 i1 (.int .i64 0) 1 8 Tryz.underlying34 hi1 hy0 hy1 hy2 rfl (by decide) _ _ _ rfl (hq2.alloc _) ⟨w2.heap.size, 0, none⟩ 1 1 [.int .i64 ((0 : Nat) : Int)] rfl rfl (cell_one_newD _ _ _) (one_intD _) (by unfold maxLen; omega) (by omega) (by simp; omega) ?_; intro v3 w3 hq3 hgrow _; have hp3 := app_keep hq2 hp2 (by decide) ((Below.refl w2.heap.size w2).alloc (Nat.le_refl _) _) hgrow; have ho3 := app_keep hq2 ho2 (by decide) ((Below.refl w2.heap.size w2).alloc (Nat.le_refl _) _) hgrow; have hb3 := hb2.trans (app_below hq2 hs2 ((Below.refl w2.heap.size w2).alloc (Nat.le_refl _) _) hgrow (Nat.le_refl _)); have hs3 : h ≤ w3.heap.size := hh ▸ hb3.size; have c3 := (cells w3 hb3).2; clear hgrow hq2 hp2 ho2 hb2 hs2 c2)
          | (at_builtin; refine wpList_append_own_none rfl _ _ 24 rfl h 5 i2 1 Tryz.underlying24 hi2 _ _ _ rfl ho3 rfl ?_))
        go_roundw
        case rel => exact ⟨i + 1, by omega, by go_num, ⟨by rw [namesV_succ]; exact hp3, by rw [HS.out]; exact hq3, by simp only [joinD, hnil, List.append_nil]; exact ho3⟩, hb3⟩
        case measure => simp [intOf]; omega
      · rw [ea] at cells
        clear ea
        go_wp2_with (first
          | (at_builtin; refine wpList_append_own _ rfl _ _ 22 rfl h 9 i0 (.string ⟨#[]⟩) 1 16 Tryz.underlying22 hi0 hz0 hz1 hz2 rfl (by decide) _ _ _ rfl (hp.alloc _) ⟨wr.heap.size, 0, none⟩ 1 1 [.string ⟨(f' i).k.toArray⟩] rfl rfl (cell_one_newD _ _ _) (one_strD _) (by unfold maxLen; omega) (by omega) (by simp; omega) ?_; intro v2 w2 hp2 hgrow _; have hq2 := app_keep hp hq (by decide) ((Below.refl wr.heap.size wr).alloc (Nat.le_refl _) _) hgrow; have ho2 := app_keep hp ho (by decide) ((Below.refl wr.heap.size wr).alloc (Nat.le_refl _) _) hgrow; have hb2 := hb.trans (app_below hp hs ((Below.refl wr.heap.size wr).alloc (Nat.le_refl _) _) hgrow (Nat.le_refl _)); have hs2 : h ≤ w2.heap.size := hh ▸ hb2.size; have c2 := (cells w2 hb2).2; clear hgrow hp hq ho hb hs c0)
          | (at_builtin; refine wpList_append_own _ rfl _ _ 34 rfl h 3 i1 (.int .i64 0) 1 8 Tryz.underlying34 hi1 hy0 hy1 hy2 rfl (by decide) _ _ _ rfl (hq2.alloc _) ⟨w2.heap.size, 0, none⟩ 1 1 [.int .i64 ((f' i).l : Int)] rfl rfl (cell_one_newD _ _ _) (one_intD _) (by unfold maxLen; omega) (by omega) (by simp; omega) ?_; intro v3 w3 hq3 hgrow _; have hp3 := app_keep hq2 hp2 (by decide) ((Below.refl w2.heap.size w2).alloc (Nat.le_refl _) _) hgrow; have ho3 := app_keep hq2 ho2 (by decide) ((Below.refl w2.heap.size w2).alloc (Nat.le_refl _) _) hgrow; have hb3 := hb2.trans (app_below hq2 hs2 ((Below.refl w2.heap.size w2).alloc (Nat.le_refl _) _) hgrow (Nat.le_refl _)); have hs3 : h ≤ w3.heap.size := hh ▸ hb3.size; have c3 := (cells w3 hb3).2; clear hgrow hq2 hp2 ho2 hb2 hs2 c2)
          | (at_builtin; refine wpList_append_own _ rfl _ _ 24 rfl h 5 i2 (.int .u8 0) 1 1 Tryz.underlying24 hi2 hx0 hx1 hx2 rfl (by decide) _ _ _ rfl ho3 ad (f' i).l (f' i).c (u8V (d (f' i))) rfl (by simp [u8V]; omega) (fun j u hj => (hb3.cell (p := ad.add j) (by have := cell_lt (hcd j u hj); omega)).trans (hcd j u hj)) (u8V_oneD _) (by unfold maxLen; omega) (by omega) hs3 ?_; intro v4 w4 ho4 hgrow _; have hp4 := app_keep ho3 hp3 (by decide) (Below.refl _ _) hgrow; have hq4 := app_keep ho3 hq3 (by decide) (Below.refl _ _) hgrow; have hb4 := hb3.trans (app_below ho3 hs3 (Below.refl _ _) hgrow (Nat.le_refl _)); clear hgrow ho3 hp3 hq3 hb3))
        go_roundw
        case rel => exact ⟨i + 1, by omega, by go_num, ⟨by rw [namesV_succ]; exact hp4, by rw [sizesV_succ]; exact hq4, by rw [show (joinD (fun j => d (f' j)) (i + 1)).length = (joinD (fun j => d (f' j)) i).length + (f' i).l by simp [joinD, hdl], show u8V (joinD (fun j => d (f' j)) (i + 1)) = u8V (joinD (fun j => d (f' j)) i) ++ u8V (d (f' i)) by simp [joinD, u8V]]; exact ho4⟩, hb4⟩
        case measure => simp [intOf]; omega
    · obtain rfl : i = n := by omega
      have hnl : ¬ ((i : Int) < (i : Int)) := by omega
      have hlens : ∀ j, j < i → (d (f' j)).length = (f' j).l := fun j hj => (hD1 j hj).1
      have hle : ∀ j, j < i → (f' j).l ≤ 65536 := fun j hj => by
        have h1 := joinD_le (fun j => d (f' j)) (i := j + 1) (n := i) (by omega)
        simp only [joinD, List.length_append] at h1
        have := hlens j hj
        omega
      have htot := tot_sizes d f' i hlens
      have kl := lengthI_any (k : Int) k rfl hk0 (by omega) _ _ (by rw [sizesOf_length]; omega) (sizes_ok i f') (sizes_le i f' fun j hj => by have := hle j hj; omega) (by rw [htot]; exact ht) wr (lies_owns hq)
      rw [htot] at kl
      have hbw : Below w.heap.size w wr := b1.trans (hb.mono (by omega))
      have hLb : lenC k (joinD (fun j => d (f' j)) i).length ≤ 65536 := by
        have := lenC_le hk0 (joinD (fun j => d (f' j)) i).length
        omega
      have hoF : ∀ m, m < (joinD (fun j => d (f' j)) i).length → ∃ g, (∃ c, u10 = .slice (some ⟨g, 0, none⟩) (joinD (fun j => d (f' j)) i).length c) ∧ g < wr.heap.size ∧ wr.cell? ⟨g, m, none⟩ = some (.int .u8 ((bAt (joinD (fun j => d (f' j)) i) m : Nat) : Int)) := fun m hm => by
        obtain ⟨g, c, e, _, hlt2⟩ := ho.form (by omega)
        refine ⟨g, ⟨c, e⟩, hlt2, ?_⟩
        subst e
        rw [ho.cellAt m (by omega)]
        exact u8V_get hm
      obtain ⟨bx, cx, rfl⟩ : ∃ bo c, u10 = .slice bo (joinD (fun j => d (f' j)) i).length c := by
        rcases ho.2 with ⟨e, e2⟩ | ⟨g, c, _, e, _⟩
        · exact ⟨none, 0, by rw [e, e2]⟩
        · exact ⟨_, _, e⟩
      go_wp2_with (first | (go_at_call 32; (with_reducible refine kl.mono ?_); rintro r w' ⟨rfl, hw'⟩; obtain rfl := hw'.symm))
      have hbxc : ∀ w2, Below wr.heap.size wr w2 → ∀ m, m < (joinD (fun j => d (f' j)) i).length → ∃ g, bx = some ⟨g, 0, none⟩ ∧ w2.cell? ⟨g, m, none⟩ = some (.int .u8 ((bAt (joinD (fun j => d (f' j)) i) m : Nat) : Int)) := fun w2 hb2 m hm => by
        obtain ⟨g, ⟨c, e⟩, _, hc⟩ := hoF m hm
        cases e
        exact ⟨g, rfl, below_cell hb2 (Nat.le_refl _) hc⟩
      have fin : ∀ (w2 : World) (bP cP : Nat) (a : Nat → Option Addr) (bl cp : Nat → Nat), Below wr.heap.size wr w2 → Cls w2 k (lenC k (joinD (fun j => d (f' j)) i).length) bP a bl cp (xAt (joinD (fun j => d (f' j)) i) (lenC k (joinD (fun j => d (f' j)) i).length)) → ColsPost k i f d w (.returned (.tuple #[.slice (some ⟨bP, 0, none⟩) k cP, u8, u9])) w2 := fun w2 bP cP a bl cp hb2 hC =>
        ⟨hbw.trans (hb2.mono hbw.size), f', _, _, bP, cP, a, bl, cp, hR, hS, rfl, (owns_keep' hp fun g hg => hb2.block g (hp.lt g hg).2).mono (by omega), (owns_keep' hq fun g hg => hb2.block g (hq.lt g hg).2).mono (by omega), hC⟩
      clear ho hoF kl htot hle hlens hR hS hD1 hB1 hp hq hb hbw hs
      generalize hL : lenC k (joinD (fun j => d (f' j)) i).length = L at *
      generalize hl : joinD (fun j => d (f' j)) i = l at *
      have p1 : wr.ownsRow wr.heap.size 24 1 (.slice none 0 0) 0 (colsV 0 (fun _ => none) L (fun _ => 0)) := World.ownsRow_nil _ _ _ _
      generalize hBs : wr.heap.size = B at *
      obtain ⟨i3, hi3, hw0, hw1, hw2⟩ := info_parts Tryz.infoCol
      go_loopw [13, 14] (fun vs vi wq => ∃ (j : Nat) (a : Nat → Option Addr) (bl cp : Nat → Nat), j ≤ k ∧ vi = .int .i64 ((j : Nat) : Int) ∧ wq.ownsRow B 24 1 vs j (colsV j a L cp) ∧ (∀ t, t < j → 0 < L → ∃ cur : Array Value, a t = some ⟨bl t, 0, none⟩ ∧ wq.heap[bl t]? = some (.cells cur 5) ∧ ∀ m, m < L → cur[m]? = some (.int .u8 ((xAt l L t m : Nat) : Int))) ∧ Below B wr wq) (fun _ vi _ => k - (intOf vi).toNat)
      case atStart => exact ⟨0, fun _ => none, fun _ => 0, fun _ => 0, by omega, rfl, p1, fun t ht => absurd ht (by omega), Below.refl _ _⟩
      case round =>
        clear p1
        obtain ⟨j, a, bl, cp, hj, rfl, hV, hcur, hbq⟩ := hrel
        have hsq : B ≤ wr.heap.size := hBs ▸ hbq.size
        by_cases hlt2 : j < k
        · have hlt2' : (j : Int) < (k : Int) := by omega
          obtain ⟨jL, hjL⟩ : ∃ jL, j * L = jL := ⟨_, rfl⟩
          have hmul : (j : Int) * (L : Int) = (jL : Int) := by rw [← hjL]; simp
          have hjb : jL ≤ 8388608 := by
            rw [← hjL]
            exact Nat.le_trans (Nat.mul_le_mul (show j ≤ 128 by omega) hLb) (by omega)
          have hxa : ∀ m, xAt l L j m = bAt l (jL + m) := fun m => by unfold xAt; rw [hjL]
          have HJ : Hid (j * L = jL) := hjL
          clear hjL
          have p2 : wr.ownsRow wr.heap.size 5 1 (.slice none 0 0) 0 (numsV 0 (xAt l L j)) := World.ownsRow_nil _ _ _ _
          have hbx2 : ∀ w2, Below wr.heap.size wr w2 → ∀ m, m < l.length → ∃ g, bx = some ⟨g, 0, none⟩ ∧ w2.cell? ⟨g, m, none⟩ = some (.int .u8 ((bAt l m : Nat) : Int)) := fun w2 hb2 => hbxc w2 (hbq.trans (hb2.mono hsq))
          go_wp2
          generalize hBj : wr.heap.size = Bj at *
          go_loopw [15, 16] (fun vs vm wq => ∃ (m : Nat), m ≤ L ∧ vm = .int .i64 ((m : Nat) : Int) ∧ wq.ownsRow Bj 5 1 vs m (numsV m (xAt l L j)) ∧ Below Bj wr wq) (fun _ vm _ => L - (intOf vm).toNat)
          case atStart => exact ⟨0, by omega, rfl, p2, Below.refl _ _⟩
          case round =>
            clear p2
            obtain ⟨m, hm, rfl, hpm, hbm⟩ := hrel
            have hsm : Bj ≤ wr.heap.size := hBj ▸ hbm.size
            by_cases hlt3 : m < L
            · have hlt3' : (m : Int) < (L : Int) := by omega
              have hstep := numsV_succ m (xAt l L j)
              rw [hxa m] at hstep
              by_cases hin : jL + m < l.length
              · have hin' : (jL : Int) + (m : Int) < (l.length : Int) := by omega
                obtain ⟨g, rfl, hc⟩ := hbx2 wr hbm (jL + m) hin
                generalize bAt l (jL + m) = D at *
                have HS : Hid _ := hstep
                clear hstep
                go_wp2_with (at_builtin; refine wpList_append_own _ rfl _ _ 24 rfl Bj 5 i2 (.int .u8 0) 1 1 Tryz.underlying24 hi2 hx0 hx1 hx2 rfl (by decide) _ _ _ rfl (hpm.alloc _) ⟨wr.heap.size, 0, none⟩ 1 1 [.int .u8 ((D : Nat) : Int)] rfl rfl (cell_one_newD _ _ _) (one_u8 _) (by unfold maxLen; omega) (by omega) (by simp; omega) ?_; intro v2 w2 hp2 hgrow _; have hb2 := hbm.trans (app_below hpm hsm ((Below.refl _ _).alloc (Nat.le_refl _) _) hgrow (Nat.le_refl _)); clear hgrow hpm hbm)
                go_roundw
                case rel => exact ⟨m + 1, by omega, by go_num, by rw [HS.out]; exact hp2, hb2⟩
                case measure => simp [intOf]; omega
              · have hin' : ¬ ((jL : Int) + (m : Int) < (l.length : Int)) := by omega
                rw [show bAt l (jL + m) = 0 from bAt_end (by omega)] at hstep
                have HS : Hid _ := hstep
                clear hstep
                go_wp2_with (at_builtin; refine wpList_append_own _ rfl _ _ 24 rfl Bj 5 i2 (.int .u8 0) 1 1 Tryz.underlying24 hi2 hx0 hx1 hx2 rfl (by decide) _ _ _ rfl (hpm.alloc _) ⟨wr.heap.size, 0, none⟩ 1 1 [.int .u8 ((0 : Nat) : Int)] rfl rfl (cell_one_newD _ _ _) (one_u8 _) (by unfold maxLen; omega) (by omega) (by simp; omega) ?_; intro v2 w2 hp2 hgrow _; have hb2 := hbm.trans (app_below hpm hsm ((Below.refl _ _).alloc (Nat.le_refl _) _) hgrow (Nat.le_refl _)); clear hgrow hpm hbm)
                go_roundw
                case rel => exact ⟨m + 1, by omega, by go_num, by rw [HS.out]; exact hp2, hb2⟩
                case measure => simp [intOf]; omega
            · have hmL : m = L := by omega
              rw [hmL] at hpm ⊢
              clear hm hlt3 hmL
              have hnl3 : ¬ ((L : Int) < (L : Int)) := by omega
              obtain ⟨x, c, g, rfl, hx⟩ := col_form hpm
              have hV1 := owns_keep' hV fun g hg => hbm.block g (by have := (hV.lt g hg).2; omega)
              have hcur1 : ∀ t, t < j → 0 < L → ∃ cur : Array Value, a t = some ⟨bl t, 0, none⟩ ∧ wr.heap[bl t]? = some (.cells cur 5) ∧ ∀ m, m < L → cur[m]? = some (.int .u8 ((xAt l L t m : Nat) : Int)) := fun t ht h0 => by
                obtain ⟨cur, q1, q2, q3⟩ := hcur t ht h0
                exact ⟨cur, q1, (hbm.block _ (by have := (Array.getElem?_eq_some_iff.1 q2).1; omega)).trans q2, q3⟩
              have hbw1 := hbq.trans (hbm.mono hsq)
              have hsw1 : B ≤ wr.heap.size := by omega
              clear hcur hV hbm hbq hpm hbx2
              go_wp2_with (at_builtin; refine wpList_append_own _ rfl _ _ 23 rfl B 24 i3 (.slice none 0 0) 1 24 Tryz.underlying23 hi3 hw0 hw1 hw2 rfl (by decide) _ _ _ rfl (hV1.alloc _) ⟨wr.heap.size, 0, none⟩ 1 1 [.slice x L c] rfl rfl (cell_one_newD _ _ _) (one_colD _ _ _) (by unfold maxLen; omega) (by omega) (by simp; omega) ?_; intro v2 w2 hV2 hgrow _)
              have hb2 := hbw1.trans (app_below hV1 hsw1 ((Below.refl _ _).alloc (Nat.le_refl _) _) hgrow (Nat.le_refl _))
              have kp : ∀ (b : Nat) (cur : Array Value), wr.heap[b]? = some (Obj.cells cur 5) → w2.heap[b]? = some (Obj.cells cur 5) := fun b cur hc => by
                have hlt := (Array.getElem?_eq_some_iff.1 hc).1
                refine ((hgrow.block b (by simp; omega) (fun e => ?_)).trans (Below.heap_alloc _ _ _ hlt)).trans hc
                obtain ⟨c1, f1, e1⟩ := Lib.ownsRow_kind hV1 b e.symm
                rw [hc] at e1
                cases e1
              clear hgrow hV1 hbw1
              rw [← colsV_snoc] at hV2
              go_roundw
              case rel => exact ⟨j + 1, _, fun t => if t = j then g else bl t, _, by omega, by go_num, hV2, fun t ht h0 => by
                by_cases e : t = j
                · subst e
                  obtain ⟨cur, q1, q2, q3⟩ := hx h0
                  exact ⟨cur, (by simpa using q1), (by simpa using kp _ _ q2), q3⟩
                · obtain ⟨cur, q1, q2, q3⟩ := hcur1 t (by omega) h0
                  exact ⟨cur, (by simpa [e] using q1), (by simpa [e] using kp _ _ q2), q3⟩, hb2⟩
              case measure => simp [intOf]; omega
        · have hjk : j = k := by omega
          rw [hjk] at hV hcur ⊢
          clear hj hlt2 hjk
          have hnl2 : ¬ ((k : Int) < (k : Int)) := by omega
          obtain ⟨bP, cP, rfl, _, _⟩ := hV.form (by omega)
          have hC : Cls wr k L bP a bl cp (xAt l L) := ⟨fun j hj => by rw [hV.cellAt j (by omega)]; exact colsV_get _ _ _ _ hj, fun j m hj hm => by
            obtain ⟨cur, q1, q2, q3⟩ := hcur j hj (by omega)
            exact ⟨q1, cell_of_block q2 (q3 m hm)⟩⟩
          have hfin := fin wr bP cP a bl cp hbq hC
          clear hcur hV hC fin
          go_wp2
          refine bodyPost_ret (results_tmp3 rfl _ _ _) rfl ?_
          exact hfin
end Go.Proofs.YtlghjjennhpjeaaGreatDoor

/-
  Both sides see the same order of blobs, and the same names, or both refuse them: in plain words.
-/
namespace Go.Proofs.YtlghjjennhpjeaaGreatDoor
open Go.RowKit Go.Deep Go.Hp

theorem names_get (n : Nat) (f : Nat → Ent) {i : Nat} (hi : i < n) : (namesOf n f).getD i [] = (f i).k := by
  simp [namesOf, List.getD_eq_getElem?_getD, hi]
theorem notAfter_no {a b : List UInt8} : notAfter a b = false ↔ Hp.lt b a = true := by
  have e : ∀ x y : List UInt8, Op.bytesLess x y = Hp.lt x y := fun _ _ => rfl
  unfold notAfter
  rw [e]
  rcases Hp.lt_tri a b with ⟨g, h, n⟩ | ⟨g, h, n⟩ | ⟨rfl, h, _⟩
  · rw [g, h]; simp
  · rw [g, h]; simp [n]
  · rw [h]; simp
theorem names_strict {n : Nat} {g : Nat → Ent} (h : NamesOk (namesOf n g)) : ∀ i, i + 1 < n → Hp.lt (g i).k (g (i + 1)).k = true := fun i hi => by
  have hl : (namesOf n g).length = n := by simp [namesOf]
  have := (h (i + 1) (by omega)).2 (by omega)
  rw [names_get n g hi, Nat.add_sub_cancel, names_get n g (by omega)] at this
  exact notAfter_no.1 this
theorem names_iff {n : Nat} {f g : Nat → Ent} (hR : Rearr n f g) (hS : Srt n g) : NamesOk (namesOf n g) ↔ NamesFit n f := by
  have hl : (namesOf n g).length = n := by simp [namesOf]
  constructor
  · intro h
    refine ⟨fun i hi => ?_, apart_of hR (names_strict h)⟩
    obtain ⟨j, hj, e⟩ := hR.symm.from hi
    have := (h j (by omega)).1
    rw [names_get n g hj, ← e] at this
    exact this
  · rintro ⟨h1, h2⟩ i hi
    rw [hl] at hi
    rw [names_get n g hi]
    refine ⟨?_, fun h0 => ?_⟩
    · obtain ⟨j, hj, e⟩ := hR.from hi
      rw [e]
      exact h1 j hj
    · rw [names_get n g (by omega), notAfter_no]
      have hle := hS (i - 1) (by omega)
      rw [show i - 1 + 1 = i by omega] at hle
      refine Hp.lt_of_le_ne hle fun e => ?_
      obtain ⟨x, y, hx, hy, hne, e1, e2⟩ := hR.two (i := i - 1) (j := i) (by omega) hi (by omega)
      rw [e1, e2] at e
      rcases Nat.lt_or_ge x y with q | q
      · exact h2 x y q hy e
      · exact h2 y x (by omega) hx e.symm
theorem names_listed {n : Nat} {g : Nat → Ent} (h : NamesOk (namesOf n g)) : ListOk (namesOf n g) (sizesOf n g) := ⟨by simp [namesOf, sizesOf], h, sizes_ok n g⟩
theorem names_same {n : Nat} {g g' : Nat → Ent} (h : ∀ i, i < n → g' i = g i) : namesOf n g' = namesOf n g := List.map_congr_left fun i hi => by rw [h i (List.mem_range.1 hi)]
theorem sizes_same {n : Nat} {g g' : Nat → Ent} (h : ∀ i, i < n → g' i = g i) : sizesOf n g' = sizesOf n g := List.map_congr_left fun i hi => by rw [h i (List.mem_range.1 hi)]
theorem join_same {d : Ent → List UInt8} {g g' : Nat → Ent} : ∀ n, (∀ i, i < n → g' i = g i) → joinD (fun j => d (g' j)) n = joinD (fun j => d (g j)) n
  | 0, _ => rfl
  | n + 1, h => by
    show _ ++ _ = _ ++ _
    rw [join_same n fun i hi => h i (by omega)]
    congr 1
    show d (g' n) = d (g n)
    rw [h n (by omega)]

/-- A column's bytes. -/
def colB (k L : Nat) (l : List UInt8) (t : Nat) : List UInt8 := (List.range L).map fun m => UInt8.ofNat (dotN (rowV k t) (fun j => xAt l L j m) k)
theorem colB_length (k L : Nat) (l : List UInt8) (t : Nat) : (colB k L l t).length = L := by simp [colB]
theorem colB_V (k L : Nat) (l : List UInt8) (t : Nat) : u8V (colB k L l t) = numsV L fun m => dotN (rowV k t) (fun j => xAt l L j m) k := by
  unfold colB u8V numsV
  rw [List.map_map]
  refine List.map_congr_left fun m _ => ?_
  show Value.int .u8 (((UInt8.ofNat _).toNat : Nat) : Int) = _
  rw [UInt8.toNat_ofNat', Nat.mod_eq_of_lt (dotN_lt (fun _ => rowV_lt) k)]
/-- A shard's bytes. -/
def shardB (k n c : Nat) (ns : List (List UInt8)) (zs : List Int) (i : Nat) (col : List UInt8) : List UInt8 :=
  sealB ([67, 65, 73, 82, 78, 49] ++ ([UInt8.ofNat k, UInt8.ofNat n, UInt8.ofNat i, 0] ++ (leB 4 c ++ (leB 4 (manTo ns zs ns.length).length ++ (leB 4 col.length ++ [0, 0]))))) ++ sealB (manTo ns zs ns.length) ++ framesTo c col (nFr c col.length) ++ [68, 79, 78, 69]
end Go.Proofs.YtlghjjennhpjeaaGreatDoor

/-
  The document's shards of blobs: run alone.
-/
namespace Go.Proofs.YtlghjjennhpjeaaGreatDoor
open Go.RowKit Go.Deep Go.Hp

theorem Tryz.infoSh : (Tryz.prog.info? 41).map (fun i => (i.zero, i.size, i.bytes)) = some (some (.agg #[.int .i64 0, .int .i64 0, .int .i64 0, .int .i64 0, .slice none 0 0, .slice none 0 0, .slice none 0 0]), 7, 104) := by kernel_rfl
def shC (k n c : Nat) (vN vS : Value) (L : Nat) (a : Nat → Option Addr) (cp : Nat → Nat) (i : Nat) : List Value := [.int .i64 ((k : Nat) : Int), .int .i64 ((n : Nat) : Int), .int .i64 ((i : Nat) : Int), .int .i64 ((c : Nat) : Int), vN, vS, .slice (a i) L (cp i)]
def shL (k n c : Nat) (vN vS : Value) (L : Nat) (a : Nat → Option Addr) (cp : Nat → Nat) (j : Nat) : List Value := (List.range j).flatMap (shC k n c vN vS L a cp)
section
variable {k n c : Nat} {vN vS : Value} {L : Nat} {a : Nat → Option Addr} {cp : Nat → Nat}
theorem shL_succ (j : Nat) : shL k n c vN vS L a cp (j + 1) = shL k n c vN vS L a cp j ++ shC k n c vN vS L a cp j := by
  unfold shL
  rw [List.range_succ, List.flatMap_append]
  simp
theorem shL_length (j : Nat) : (shL k n c vN vS L a cp j).length = j * 7 := by
  induction j with
  | zero => rfl
  | succ j ih => rw [shL_succ, List.length_append, ih]; simp [shC]; omega
theorem shL_get (j i p : Nat) (hi : i < j) (hp : p < 7) : (shL k n c vN vS L a cp j)[i * 7 + p]? = (shC k n c vN vS L a cp i)[p]? := by
  induction j with
  | zero => omega
  | succ j ih =>
    rw [shL_succ]
    by_cases e : i = j
    · subst e
      rw [List.getElem?_append_right (by rw [shL_length]; omega), shL_length, show i * 7 + p - i * 7 = p by omega]
    · rw [List.getElem?_append_left (by rw [shL_length]; omega), ih (by omega)]
theorem shL_congr {a' : Nat → Option Addr} {cp' : Nat → Nat} (j : Nat) (h : ∀ i, i < j → a i = a' i ∧ cp i = cp' i) : shL k n c vN vS L a cp j = shL k n c vN vS L a' cp' j := by
  induction j with
  | zero => rfl
  | succ j ih => rw [shL_succ, shL_succ, ih fun i hi => h i (by omega)]; simp only [shC, (h j (by omega)).1, (h j (by omega)).2]
end
theorem cell_seven_new (w : World) (x0 x1 x2 x3 x4 x5 x6 : Value) (t : TypeId) : ∀ j u, [x0, x1, x2, x3, x4, x5, x6][j]? = some u → (w.alloc (.cells #[x0, x1, x2, x3, x4, x5, x6] t)).cell? ((⟨w.heap.size, 0, none⟩ : Addr).add j) = some u := by
  intro j u hj
  match j, hj with
  | 0, hj => simp at hj; subst hj; simp [Addr.add]
  | 1, hj => simp at hj; subst hj; simp [Addr.add]
  | 2, hj => simp at hj; subst hj; simp [Addr.add]
  | 3, hj => simp at hj; subst hj; simp [Addr.add]
  | 4, hj => simp at hj; subst hj; simp [Addr.add]
  | 5, hj => simp at hj; subst hj; simp [Addr.add]
  | 6, hj => simp at hj; subst hj; simp [Addr.add]
theorem owns_form {w : World} {B t s n : Nat} {v : Value} {xs : List Value} (h : w.ownsRow B t s v n xs) : ∃ x c, v = .slice x n c := by
  rcases h.2 with ⟨e, e2⟩ | ⟨g, c, cur, rfl, _⟩
  · exact ⟨none, 0, by rw [e, e2]⟩
  · exact ⟨_, _, rfl⟩
theorem owns_below {w w' : World} {B B' t s n : Nat} {v : Value} {xs : List Value} (h : w.ownsRow B t s v n xs) (hb : Below B' w w') (hB : w.heap.size ≤ B') : w'.ownsRow B t s v n xs :=
  owns_keep' h fun g hg => hb.block g (Nat.lt_of_lt_of_le (h.lt g hg).2 hB)
/-- What is said of a value that is one cell. -/
def OneC (v : Value) : Prop := v.oneCell' = true

def ShPost (k n c m : Nat) (f : Nat → Ent) (d : Ent → List UInt8) (w : World) (r : Ending) (w' : World) : Prop :=
  Below w.heap.size w w' ∧ ∃ (f' : Nat → Ent) (bN bZ : Option Addr) (cN cZ bS cS : Nat) (a : Nat → Option Addr) (cp : Nat → Nat), Rearr m f f' ∧ Srt m f' ∧ r = .returned (.slice (some ⟨bS, 0, none⟩) n cS) ∧ w'.ownsRow w.heap.size 9 1 (.slice bN m cN) m (nameV (namesOf m f')) ∧ w'.ownsRow w.heap.size 3 1 (.slice bZ m cZ) m (intV (sizesOf m f')) ∧
    w'.ownsRow w.heap.size 41 7 (.slice (some ⟨bS, 0, none⟩) n cS) n (shL k n c (.slice bN m cN) (.slice bZ m cZ) (lenC k (joinD (fun j => d (f' j)) m).length) a cp n) ∧
    ∀ i, i < n → w'.ownsRow w.heap.size 5 1 (.slice (a i) (lenC k (joinD (fun j => d (f' j)) m).length) (cp i)) (lenC k (joinD (fun j => d (f' j)) m).length) (numsV (lenC k (joinD (fun j => d (f' j)) m).length) fun q => dotN (rowV k i) (fun j => xAt (joinD (fun j => d (f' j)) m) (lenC k (joinD (fun j => d (f' j)) m).length) j q) k)

set_option maxHeartbeats 8000000 in
set_option maxRecDepth 100000 in
theorem shards_any (k n c m cap : Nat) (bo : Option Addr) (f : Nat → Ent) (d : Ent → List UInt8) (w : World) (hk0 : 1 ≤ k) (hkn : k ≤ n) (hn : n ≤ 128) (hm : m ≤ 1048576) (hcap : m ≤ cap) (hbo : bo = none → cap = 0) (hB : BC w bo m f) (hD : ∀ i, i < m → DataAt w (f i) (d (f i)))
    (hT : ∀ f', Rearr m f f' → Srt m f' → (joinD (fun j => d (f' j)) m).length ≤ 65536) :
    Calls Tryz.prog 16 #[.slice bo m cap, .agg #[.int .i64 ((k : Nat) : Int), .int .i64 ((n : Nat) : Int), .int .i64 ((c : Nat) : Int)]] w fun r w' => ShPost k n c m f d w r w' := by
  obtain ⟨i0, hi0, hz0, hz1, hz2⟩ := info_parts Tryz.infoSh
  have hr0 := RowAt.made w [.int .i64 ((k : Nat) : Int), .int .i64 ((n : Nat) : Int), .int .i64 ((c : Nat) : Int)] 60
  have hb0 := (Below.refl w.heap.size w).alloc (Nat.le_refl _) (.cells #[.int .i64 ((k : Nat) : Int), .int .i64 ((n : Nat) : Int), .int .i64 ((c : Nat) : Int)] 60)
  have s0 : (w.alloc (.cells #[.int .i64 ((k : Nat) : Int), .int .i64 ((n : Nat) : Int), .int .i64 ((c : Nat) : Int)] 60)).heap.size = w.heap.size + 1 := by simp
  have c0 := hr0.cell (i := 0) rfl
  have ks := colsR_any k m cap bo f d (w.alloc (.cells #[.int .i64 ((k : Nat) : Int), .int .i64 ((n : Nat) : Int), .int .i64 ((c : Nat) : Int)] 60)) hk0 (by omega) hm hcap hbo (hB.up (by simp) fun h => below_cell hb0 (Nat.le_refl _) h) (fun i hi => (hD i hi).grow (by simp) fun h => below_cell hb0 (Nat.le_refl _) h) hT
  have hDl : ∀ f', Rearr m f f' → ∀ i, i < m → (d (f' i)).length = (f' i).l := fun f' hR i hi => by
    obtain ⟨j, hj, e⟩ := hR.from hi
    rw [e]
    exact (hD j hj).1
  clear hB hD hcap hbo
  go_enter Tryz.func16, Tryz.ntmps16
  go_wp2_with (first
    | (go_at_call 39; (with_reducible refine ks.mono ?_); rintro r w1 ⟨b1, f', vN, vS, bP, cP, a0, bl0, cp0, hR, hS, rfl, hvN, hvS, hC⟩; clear ks
       have ht := hT f' hR hS
       have hlens := hDl f' hR
       have hle : ∀ j, j < m → (f' j).l ≤ 65536 := fun j hj => (by
         have h1 := joinD_le (fun j => d (f' j)) (i := j + 1) (n := m) (by omega)
         simp only [joinD, List.length_append] at h1
         have := hlens j hj
         omega)
       have htot := tot_sizes d f' m hlens
       have hr1 := hr0.later (S := fun _ => False) (.of_below b1) (by simp) id
       have hb1 := hb0.trans (b1.mono (by simp))
       have hs1 := hb1.size
       have d0 := hr1.cell (i := 0) rfl
       have kl := lengthI_any (k : Int) k rfl hk0 (by omega) _ _ (by rw [sizesOf_length]; omega) (sizes_ok m f') (sizes_le m f' fun j hj => by have := hle j hj; omega) (by rw [htot]; exact ht) w1 (lies_owns hvS)
       rw [htot] at kl
       have hLb : lenC k (joinD (fun j => d (f' j)) m).length ≤ 65536 := (by
         have := lenC_le hk0 (joinD (fun j => d (f' j)) m).length
         omega)
       obtain ⟨bN, cN, rfl⟩ := owns_form hvN
       obtain ⟨bZ, cZ, rfl⟩ := owns_form hvS
       clear hDl hT hlens hle htot)
    | (go_at_call 32; (with_reducible refine kl.mono ?_); rintro r w' ⟨rfl, hw'⟩; obtain rfl := hw'.symm))
  clear kl
  have hvN' := hvN.mono (base' := w.heap.size) (by rw [s0]; omega)
  have hvS' := hvS.mono (base' := w.heap.size) (by rw [s0]; omega)
  have fin : ∀ (w2 : World) (bS cS : Nat) (a : Nat → Option Addr) (cp : Nat → Nat), Below w1.heap.size w1 w2 → w2.ownsRow w1.heap.size 41 7 (.slice (some ⟨bS, 0, none⟩) n cS) n (shL k n c (.slice bN m cN) (.slice bZ m cZ) (lenC k (joinD (fun j => d (f' j)) m).length) a cp n) → (∀ i, i < n → w2.ownsRow w1.heap.size 5 1 (.slice (a i) (lenC k (joinD (fun j => d (f' j)) m).length) (cp i)) (lenC k (joinD (fun j => d (f' j)) m).length) (numsV (lenC k (joinD (fun j => d (f' j)) m).length) fun q => dotN (rowV k i) (fun j => xAt (joinD (fun j => d (f' j)) m) (lenC k (joinD (fun j => d (f' j)) m).length) j q) k)) →
      ShPost k n c m f d w (.returned (.slice (some ⟨bS, 0, none⟩) n cS)) w2 := fun w2 bS cS a cp hb2 hV hcols =>
    ⟨hb1.trans (hb2.mono hs1), f', bN, bZ, cN, cZ, bS, cS, a, cp, hR, hS, rfl, owns_below hvN' hb2 (Nat.le_refl _), owns_below hvS' hb2 (Nat.le_refl _), hV.mono hs1, fun i hi => (hcols i hi).mono hs1⟩
  clear hvN hvS hvN' hvS' hR hS b1 hb1 hb0 hr0 c0 d0
  generalize hL : lenC k (joinD (fun j => d (f' j)) m).length = L at *
  generalize hl : joinD (fun j => d (f' j)) m = l at *
  have p1 : w1.ownsRow w1.heap.size 41 7 (.slice none 0 0) 0 (shL k n c (.slice bN m cN) (.slice bZ m cZ) L (fun _ => none) (fun _ => 0) 0) := World.ownsRow_nil _ _ _ _
  have hr2 := hr1
  have hbpl : w.heap.size < w1.heap.size := by have := hr1.lt; exact this
  clear hr1
  generalize hBs : w1.heap.size = B at *
  go_loopw [9, 10, 11] (fun vs vi _ wq => ∃ (j : Nat) (a : Nat → Option Addr) (cp : Nat → Nat), j ≤ n ∧ vi = .int .i64 ((j : Nat) : Int) ∧ wq.ownsRow B 41 7 vs j (shL k n c (.slice bN m cN) (.slice bZ m cZ) L a cp j) ∧ (∀ t, t < j → wq.ownsRow B 5 1 (.slice (a t) L (cp t)) L (numsV L fun q => dotN (rowV k t) (fun j => xAt l L j q) k)) ∧ Below B w1 wq) (fun _ vi _ _ => n - (intOf vi).toNat)
  case atStart => exact ⟨0, fun _ => none, fun _ => 0, by omega, rfl, p1, fun t ht => absurd ht (by omega), Below.refl _ _⟩
  case round =>
    clear p1
    obtain ⟨j, a, cp, hj, rfl, hV, hcols, hb⟩ := hrel
    have hs : B ≤ wr.heap.size := hBs ▸ hb.size
    have hr3 := hr2.later (S := fun _ => False) (.of_below hb) hbpl id
    have e1 := hr3.cell (i := 1) rfl
    by_cases hlt : j < n
    · have hlt' : (j : Int) < (n : Int) := by omega
      have e0 := hr3.cell (i := 0) rfl
      have krow := rrow_any k j (by omega) (by omega) wr
      have hC1 : Cls wr k L bP a0 bl0 cp0 (xAt l L) := hC.heap fun hc => below_cell hb (by omega) hc
      go_wp2_with (first
        | (go_at_call 36; (with_reducible refine krow.mono ?_); rintro r w2 ⟨vr, rfl, hvr, hb2⟩; obtain ⟨br, cr, rfl, _, _⟩ := hvr.form (by omega); have km := mixed_any k L br cr bP cP (rowV k j) a0 bl0 cp0 (xAt l L) w2 (fun t ht => (by rw [hvr.cellAt t (by omega)]; simp [ht])) (fun _ => rowV_lt) (fun _ _ => bAt_lt _ _) (hC1.heap fun hc => below_cell hb2 (Nat.le_refl _) hc) (by omega) (by omega); have hs2 := hb2.size; have hV2 := owns_below hV hb2 (Nat.le_refl _); have hcols2 := fun t ht => owns_below (hcols t ht) hb2 (Nat.le_refl _); have hbw2 := hb.trans (hb2.mono hs); clear krow hvr hV hcols hb hr3 e1 e0)
        | (go_at_call 40; (with_reducible refine km.mono ?_); rintro r w3 ⟨vc, rfl, hvc, hb3⟩; obtain ⟨xc, cc, rfl⟩ := owns_form hvc; have hs3 := hb3.size; have hV3 := owns_below hV2 hb3 (Nat.le_refl _); have hcols3 := fun t ht => owns_below (hcols2 t ht) hb3 (Nat.le_refl _); have hvc3 := hvc.mono (base' := B) (by omega); have hbw3 := hbw2.trans (hb3.mono (by omega)); have hr4 := hr2.later (S := fun _ => False) (.of_below hbw3) hbpl id; have g0 := hr4.cell (i := 0) rfl; have g1 := hr4.cell (i := 1) rfl; have g2 := hr4.cell (i := 2) rfl; clear km hvc hV2 hcols2 hbw2 hb2 hb3)
        | (at_builtin; refine wpList_append_own _ rfl _ _ 39 rfl B 41 i0 _ 7 104 Tryz.underlying39 hi0 hz0 hz1 hz2 rfl (by decide) _ _ _ rfl (hV3.alloc _) ⟨w3.heap.size, 0, none⟩ 1 1 [.int .i64 ((k : Nat) : Int), .int .i64 ((n : Nat) : Int), .int .i64 ((j : Nat) : Int), .int .i64 ((c : Nat) : Int), .slice bN m cN, .slice bZ m cZ, .slice xc L cc] rfl rfl (cell_seven_new _ _ _ _ _ _ _ _ _) (by intro u hu; simp at hu; rcases hu with rfl | rfl | rfl | rfl | rfl | rfl | rfl <;> rfl) (by unfold maxLen; omega) (by omega) (by simp; omega) ?_; intro v4 w4 hV4 hgrow _))
      have hb4 := hbw3.trans (app_below hV3 (by omega) ((Below.refl _ _).alloc (Nat.le_refl _) _) hgrow (Nat.le_refl _))
      have kp : ∀ {v : Value} {q : Nat} {xs : List Value}, w3.ownsRow B 5 1 v q xs → w4.ownsRow B 5 1 v q xs := fun h => app_keep hV3 h (by decide) ((Below.refl _ _).alloc (Nat.le_refl _) _) hgrow
      have hc4 := kp hvc3
      have hcols4 := fun t ht => kp (hcols3 t ht)
      clear hgrow hV3 hbw3 hcols3 hvc3 kp hr4 g0 g1 g2
      have hV5 : w4.ownsRow B 41 7 v4 (j + 1) (shL k n c (.slice bN m cN) (.slice bZ m cZ) L (fun t => if t = j then xc else a t) (fun t => if t = j then cc else cp t) (j + 1)) := by
        rw [shL_succ, shL_congr (a' := a) (cp' := cp) j (fun i hi => ⟨if_neg (by omega), if_neg (by omega)⟩)]
        simpa [shC] using hV4
      clear hV4
      go_roundw
      case rel => exact ⟨j + 1, _, _, by omega, by go_num, hV5, fun t ht => by
        by_cases e : t = j
        · subst e
          simpa using hc4
        · simpa [e] using hcols4 t (by omega), hb4⟩
      case measure => simp [intOf]; omega
    · have hjk : j = n := by omega
      rw [hjk] at hV hcols ⊢
      clear hj hlt hjk
      have hnl2 : ¬ ((n : Int) < (n : Int)) := by omega
      obtain ⟨bS, cS, rfl, _, _⟩ := hV.form (by omega)
      have hfin := fin wr bS cS a cp hb hV hcols
      clear hcols hV fin
      go_wp2
      go_ret
      exact hfin
end Go.Proofs.YtlghjjennhpjeaaGreatDoor

/-
  What the document's Padding, Number and manifest answer.
-/
namespace Go.Proofs.YtlghjjennhpjeaaGreatDoor
open Go.RowKit Go.Deep

/-- A byte that fills a column up and is not 0. -/
def PadBad (k i t : Nat) (col : List UInt8) : Prop := i < k ∧ ∃ m, m < col.length ∧ t ≤ i * lenC k t + m ∧ bAt col m ≠ 0
def PadTold (r : Ending) (p : Prop) : Prop := ∃ x : Int, r = .returned (.int .i64 x) ∧ -1 ≤ x ∧ x ≤ 9223372036854775807 ∧ (0 ≤ x ↔ p)

end Go.Proofs.YtlghjjennhpjeaaGreatDoor

/-
  What the document's manifest answers.
-/
namespace Go.Proofs.YtlghjjennhpjeaaGreatDoor
open Go.RowKit Go.Deep

/-- Two rows lie apart. -/
def Apt (u v : Value) : Prop := ∀ g, u.ownBlock = some g → v.ownBlock ≠ some g
theorem Apt.symm {u v : Value} (h : Apt u v) : Apt v u := fun g h1 h2 => h g h2 h1
theorem OwnB.bnd {B : Nat} {w : World} {v : Value} {l : List UInt8} (h : OwnB B w v l) (k : Nat) (hk : v.ownBlock = some k) : B ≤ k ∧ k < w.heap.size := World.ownsRow.lt h k hk
theorem Apt.new {B B' : Nat} {w w' : World} {u v : Value} {l l' : List UInt8} (h1 : OwnB B w u l) (h2 : OwnB B' w' v l') (hB : w.heap.size ≤ B') : Apt u v := fun g e1 e2 => by
  have a := (h1.bnd g e1).2
  have b := (h2.bnd g e2).1
  omega
theorem OwnB.below {B : Nat} {w w' : World} {v : Value} {l : List UInt8} (h : OwnB B w v l) (hb : Below w.heap.size w w') : OwnB B w' v l := by
  refine ⟨h.1, ?_⟩
  rcases h.2 with x | ⟨g, cap, cur, h1, h2, h3, h4⟩
  · exact .inl x
  · exact .inr ⟨g, cap, cur, h1, h2, (hb.block g (Array.getElem?_eq_some_iff.1 h3).1).trans h3, h4⟩
theorem OwnB.step {B : Nat} {w w' : World} {u v v' : Value} {l : List UInt8} (h : OwnB B w u l) (ha : Apt u v) (hg : w.grownBy w' v.ownBlock) (hb : v'.ownBlock = v.ownBlock ∨ v'.ownBlock = some w.heap.size) : OwnB B w' u l ∧ Apt u v' := by
  refine ⟨?_, fun g e1 e2 => ?_⟩
  · refine ⟨h.1, ?_⟩
    rcases h.2 with x | ⟨g, cap, cur, rfl, h2, h3, h4⟩
    · exact .inl x
    · exact .inr ⟨g, cap, cur, rfl, h2, (hg.block g (Array.getElem?_eq_some_iff.1 h3).1 (fun e => ha g rfl e.symm)).trans h3, h4⟩
  · rcases hb with x | x
    · exact ha g e1 (x.symm.trans e2)
    · have := (h.bnd g e1).2
      rw [x] at e2
      cases e2
      omega
theorem OwnB.kept {B : Nat} {w w' : World} {u v : Value} {l : List UInt8} (h : OwnB B w u l) (ha : Apt u v) (hg : w.grownBy w' v.ownBlock) : OwnB B w' u l :=
  (h.step (v' := v) ha hg (.inl rfl)).1

end Go.Proofs.YtlghjjennhpjeaaGreatDoor

/-
  What the program's appendHead leaves.
-/
namespace Go.Proofs.YtlghjjennhpjeaaGreatDoor
open Go.RowKit Go.Deep

theorem cells_new4 (w : World) (a b c d : Value) (t : TypeId) : ∀ j u, [a, b, c, d][j]? = some u → (w.alloc (.cells #[a, b, c, d] t)).cell? ((⟨w.heap.size, 0, none⟩ : Addr).add j) = some u := by
  intro j u hj
  rw [add_off, Nat.zero_add]
  exact (RowAt.made w [a, b, c, d] t).cell hj
theorem cells_new2 (w : World) (a b : Value) (t : TypeId) : ∀ j u, [a, b][j]? = some u → (w.alloc (.cells #[a, b] t)).cell? ((⟨w.heap.size, 0, none⟩ : Addr).add j) = some u := by
  intro j u hj
  rw [add_off, Nat.zero_add]
  exact (RowAt.made w [a, b] t).cell hj
theorem u8_mod (k : Nat) (hk : k ≤ 255) : u8V [UInt8.ofNat k] = [.int .u8 (k : Int)] := by
  simp only [u8V, List.map_cons, List.map_nil]
  rw [UInt8.toNat_ofNat', Nat.mod_eq_of_lt (by omega)]

end Go.Proofs.YtlghjjennhpjeaaGreatDoor

/-
  What the document's Written answers.
-/
namespace Go.Proofs.YtlghjjennhpjeaaGreatDoor
open Go.RowKit Go.Deep

theorem OwnB.made (w : World) (l : List UInt8) (hl : l.length ≤ maxLen) (cs : Array Value) (e : cs = (u8V l).toArray) (m : Nat) (hm : l.length = m) : OwnB w.heap.size (w.alloc (.cells cs 5)) (.slice (some ⟨w.heap.size, 0, none⟩) m m) l := by
  subst e hm
  refine ⟨by rw [u8V_length, Nat.mul_one], .inr ⟨w.heap.size, l.length, (u8V l).toArray, rfl, Nat.le_refl _, RowAt.made w (u8V l) 5, Nat.le_refl _, hl, by simp [u8V_length], ?_⟩⟩
  rw [Nat.mul_one]
  show (u8V l).take l.length = u8V l
  rw [← u8V_length l, List.take_length]
theorem frameB_len2 (c : Nat) (col : List UInt8) (k : Nat) : (frameB c col k).length ≤ c + 8 := by
  unfold frameB
  rw [sealB_length]
  have : (part col (k * c) (min c (col.length - k * c))).length ≤ min c (col.length - k * c) := by unfold part; exact List.length_take_le _ _
  omega
theorem framesTo_len2 (c : Nat) (col : List UInt8) : ∀ k, (framesTo c col k).length ≤ k * (c + 8)
  | 0 => by simp [framesTo]
  | k + 1 => by
    have h1 := framesTo_len2 c col k
    have h2 := frameB_len2 c col k
    rw [framesTo_succ, List.length_append, Nat.add_mul, Nat.one_mul]
    omega
theorem OwnB.base' {B B' : Nat} {w : World} {v : Value} {l : List UInt8} (h : OwnB B w v l) (hB : B' ≤ B) : OwnB B' w v l := by
  refine ⟨h.1, ?_⟩
  rcases h.2 with x | ⟨g, cap, cur, h1, h2, h3⟩
  · exact .inl x
  · exact .inr ⟨g, cap, cur, h1, Nat.le_trans hB h2, h3⟩

end Go.Proofs.YtlghjjennhpjeaaGreatDoor

/-
  When two lists of rows of bytes are told to be the same: run alone.
-/
namespace Go.Proofs.YtlghjjennhpjeaaGreatDoor
open Go.RowKit Go.Deep

theorem holds8_heap {w w' : World} {v : Value} {l : List UInt8} (h : Holds8 w v l) (e : w'.heap = w.heap) : Holds8 w' v l := by
  rcases h with h | ⟨a, cap, h1, h2⟩
  · exact .inl h
  · exact .inr ⟨a, cap, h1, fun j hj => by rw [← h2 j hj]; simp only [World.cell?, e]⟩
theorem drewN_addR (w : World) (n m : Nat) : (w.drewN n).drewN m = w.drewN (n + m) := by
  simp [World.drewN, Nat.add_assoc]
end Go.Proofs.YtlghjjennhpjeaaGreatDoor

/-
  The document's Encode: run alone.
-/
namespace Go.Proofs.YtlghjjennhpjeaaGreatDoor
open Go.RowKit Go.Deep Go.Hp

theorem holds8_ownB {w : World} {B : Nat} {v : Value} {l : List UInt8} (h : OwnB B w v l) : Holds8 w v l := by
  rcases h.2 with ⟨rfl, e⟩ | ⟨g, cap, cur, rfl, _⟩
  · exact .inl ⟨rfl, List.length_eq_zero_iff.1 e⟩
  · refine .inr ⟨⟨g, 0, none⟩, cap, rfl, fun j hj => ?_⟩
    have e : ((⟨g, 0, none⟩ : Addr).add j) = ⟨g, j, none⟩ := by rw [addr_addD, Nat.zero_add]
    rw [e, h.cellAt j (by omega)]
    simp [u8V, hj]
def outL (ov : Nat → Value) (j : Nat) : List Value := (List.range j).map ov
theorem outL_succ (ov : Nat → Value) (j : Nat) : outL ov (j + 1) = outL ov j ++ [ov j] := by simp [outL, List.range_succ]
theorem outL_congr {ov ov' : Nat → Value} {j : Nat} (h : ∀ i, i < j → ov i = ov' i) : outL ov j = outL ov' j := List.map_congr_left fun i hi => h i (List.mem_range.1 hi)

/-- What comes out where all is well. -/
def EncOut (K N C m : Nat) (f' : Nat → Ent) (d : Ent → List UInt8) (w' : World) (go : Nat) : Prop := ∃ ov : Nat → Value, (∀ i, i < N → w'.cell? ⟨go, i, none⟩ = some (ov i)) ∧
  ∀ i, i < N → Holds8 w' (ov i) (shardB K N C (namesOf m f') (sizesOf m f') i (colB K (lenC K (joinD (fun j => d (f' j)) m).length) (joinD (fun j => d (f' j)) m) i))
def EncR (k n c : Int) (m : Nat) (f : Nat → Ent) (d : Ent → List UInt8) (w : World) (r : Ending) (w' : World) : Prop :=
  Below w.heap.size w w' ∧ ((¬ ParamsOk k n c ∧ r = .returned (.tuple #[.slice none 0 0, .int .i64 1])) ∨ (ParamsOk k n c ∧ ¬ NamesFit m f ∧ r = .returned (.tuple #[.slice none 0 0, .int .i64 2])) ∨
    (ParamsOk k n c ∧ ∃ f', Rearr m f f' ∧ Srt m f' ∧ NamesOk (namesOf m f') ∧ ((¬ FewOk (namesOf m f') (sizesOf m f') ∧ r = .returned (.tuple #[.slice none 0 0, .int .i64 3])) ∨
      (FewOk (namesOf m f') (sizesOf m f') ∧ ∃ go cg, r = .returned (.tuple #[.slice (some ⟨go, 0, none⟩) n.toNat cg, .int .i64 0]) ∧ EncOut k.toNat n.toNat c.toNat m f' d w' go))))

def lists2 (h : Nat) (wr : World) (i : Nat) (f : Nat → Ent) (va vb : Value) : Prop :=
  wr.ownsRow h 9 1 va i (nameV (namesOf i f)) ∧ wr.ownsRow h 3 1 vb i (intV (sizesOf i f))

end Go.Proofs.YtlghjjennhpjeaaGreatDoor

/-
  Encode where it is refused: the program's answer, the document's, the statement's: run alone.
-/
namespace Go.Proofs.YtlghjjennhpjeaaGreatDoor
open Go.RowKit Go.Deep Go.Hp

set_option maxHeartbeats 400000 in
set_option maxRecDepth 100000 in
theorem numE_any (x : Int) (w : World) :
    Calls Tryz.prog 7 #[.int .i64 x] w fun e w' => e = .returned (.int .i64 x) ∧ w' = w := by
  go_enter Tryz.func7, Tryz.ntmps7
  go_wp2
  go_ret
  exact ⟨rfl, rfl⟩
/-- The blobs that are handed in. -/
structure Args (w : World) (bo : Option Addr) (m cap : Nat) (f : Nat → Ent) (d : Ent → List UInt8) : Prop where
  hm : m ≤ 1048576
  hcap : m ≤ cap
  hbo : bo = none → cap = 0
  hk : ∀ i, i < m → (f i).k.length ≤ 9223372036854775807
  hl : ∀ i, i < m → (f i).l ≤ 9223372036854775807
  bc : BC w bo m f
  dat : ∀ i, i < m → DataAt w (f i) (d (f i))
theorem Args.below {w w' : World} {bo : Option Addr} {m cap : Nat} {f : Nat → Ent} {d : Ent → List UInt8} (h : Args w bo m cap f d) (hb : Below w.heap.size w w') : Args w' bo m cap f d :=
  ⟨h.hm, h.hcap, h.hbo, h.hk, h.hl, h.bc.below hb (Nat.le_refl _), fun i hi => (h.dat i hi).below hb (Nat.le_refl _)⟩

/-- What Encode refuses, and with which word. -/
def Refused (k n c : Int) (m : Nat) (f : Nat → Ent) (x : Int) : Prop := (¬ ParamsOk k n c ∧ x = 1) ∨ (ParamsOk k n c ∧ ¬ NamesFit m f ∧ x = 2) ∨ (ParamsOk k n c ∧ NamesFit m f ∧ (∃ f', Rearr m f f' ∧ Srt m f' ∧ ¬ FewOk (namesOf m f') (sizesOf m f')) ∧ x = 3)

end Go.Proofs.YtlghjjennhpjeaaGreatDoor

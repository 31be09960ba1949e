/-
  When two lists of rows of bytes are told to be the same: run alone.
-/
import Derived.Test.YtkpcmfgeanlcnaaDoorEnG
import Derived.BigQuiet
import Derived.KernelRfl
import Derived.Test.YtkpcmfgeanlcnaaDoorEnL
import Derived.Test.YtkpcmfgeanlcnaaDoorWrP
namespace Go.Proofs.YtkpcmfgeanlcnaaDoor
open Go.RowKit Go.Deep

theorem holds8_heap {w w' : World} {v : Value} {l : List UInt8} (h : Holds8 w v l) (e : w'.heap = w.heap) : Holds8 w' v l := by
  rcases h with h | ⟨a, cap, h1, h2⟩
  · exact .inl h
  · exact .inr ⟨a, cap, h1, fun j hj => by rw [← h2 j hj]; simp only [World.cell?, e]⟩
theorem drewN_add (w : World) (n m : Nat) : (w.drewN n).drewN m = w.drewN (n + m) := by
  simp [World.drewN, Nat.add_assoc]
/-- Lists of lists that hold the same bytes. -/
theorem sameLists_yes (k a b oa ob ca cb : Nat) (va vb : Nat → Value) (l : Nat → List UInt8) (w : World) (hk : k ≤ 9223372036854775806) (ha : ∀ i, i < k → w.cell? ⟨a, oa + i, none⟩ = some (va i)) (hb : ∀ i, i < k → w.cell? ⟨b, ob + i, none⟩ = some (vb i)) (hva : ∀ i, i < k → Holds8 w (va i) (l i)) (hvb : ∀ i, i < k → Holds8 w (vb i) (l i)) :
    Calls Tryd.prog 21 #[.slice (some ⟨a, oa, none⟩) k ca, .slice (some ⟨b, ob, none⟩) k cb] w fun e w' => e = .returned (.bool true) ∧ ∃ n, w' = w.drewN n := by
  go_enter Tryd.func21, Tryd.ntmps21
  go_wp2
  go_loopw [5, 6] (fun vi _ wr => ∃ i : Nat, i ≤ k ∧ vi = .int .i64 ((i : Nat) : Int) ∧ ∃ n, wr = w.drewN n) (fun i _ _ => k - (intOf i).toNat)
  case atStart => exact ⟨0, by omega, rfl, 0, rfl⟩
  case round =>
    obtain ⟨i, hi, rfl, hwr⟩ := hrel
    have hh : ∃ h, h = wr.heap ∧ h = w.heap := ⟨_, rfl, by obtain ⟨n, rfl⟩ := hwr; rfl⟩
    by_cases hlt : i < k
    · have hlt' : (i : Int) < (k : Int) := by omega
      have g0 : wr.cell? ⟨a, oa + i, none⟩ = some (va i) := by obtain ⟨n, rfl⟩ := hwr; exact ha i hlt
      have g1 : wr.cell? ⟨b, ob + i, none⟩ = some (vb i) := by obtain ⟨n, rfl⟩ := hwr; exact hb i hlt
      have cs := fun n => same_any (va i) (vb i) (l i) (l i) (wr.drewN n) (holds8_heap (hva i hlt) (by obtain ⟨h, h1, h2⟩ := hh; exact h1.symm.trans h2)) (holds8_heap (hvb i hlt) (by obtain ⟨h, h1, h2⟩ := hh; exact h1.symm.trans h2))
      rw [show decide (l i = l i) = true from decide_eq_true rfl] at cs
      generalize va i = x at *
      generalize vb i = y at *
      go_wp2_with fail
      go_big_quiet (exact Calls.quiet_of_same (cs _))
      have hwq : ∃ n', wr.drewN nq = w.drewN n' := by obtain ⟨n, rfl⟩ := hwr; exact ⟨n + nq, drewN_add w n nq⟩
      generalize wr.drewN nq = wz at hwq ⊢
      go_wp2
      go_roundw
      case rel => exact ⟨i + 1, by omega, by go_num, hwq⟩
      case measure => simp [intOf]; omega
    · have hnl : ¬ ((i : Int) < (k : Int)) := by omega
      go_wp2
      go_ret
      exact ⟨rfl, hwr⟩
end Go.Proofs.YtkpcmfgeanlcnaaDoor

/-
  The document's Encode: run alone.
-/
namespace Go.Proofs.YtkpcmfgeanlcnaaDoor
open Go.RowKit Go.Deep Go.Hp

theorem holds8_ownB {w : World} {B : Nat} {v : Value} {l : List UInt8} (h : OwnB B w v l) : Holds8 w v l := by
  rcases h.2 with ⟨rfl, e⟩ | ⟨g, cap, cur, rfl, _⟩
  · exact .inl ⟨rfl, List.length_eq_zero_iff.1 e⟩
  · refine .inr ⟨⟨g, 0, none⟩, cap, rfl, fun j hj => ?_⟩
    have e : ((⟨g, 0, none⟩ : Addr).add j) = ⟨g, j, none⟩ := by rw [addr_addD, Nat.zero_add]
    rw [e, h.cellAt j (by omega)]
    simp [u8V, hj]
def outL (ov : Nat → Value) (j : Nat) : List Value := (List.range j).map ov
theorem outL_succ (ov : Nat → Value) (j : Nat) : outL ov (j + 1) = outL ov j ++ [ov j] := by simp [outL, List.range_succ]
theorem outL_congr {ov ov' : Nat → Value} {j : Nat} (h : ∀ i, i < j → ov i = ov' i) : outL ov j = outL ov' j := List.map_congr_left fun i hi => h i (List.mem_range.1 hi)

/-- What comes out where all is well. -/
def EncOut (K N C m : Nat) (f' : Nat → Ent) (d : Ent → List UInt8) (w' : World) (go : Nat) : Prop := ∃ ov : Nat → Value, (∀ i, i < N → w'.cell? ⟨go, i, none⟩ = some (ov i)) ∧
  ∀ i, i < N → Holds8 w' (ov i) (shardB K N C (namesOf m f') (sizesOf m f') i (colB K (lenC K (joinD (fun j => d (f' j)) m).length) (joinD (fun j => d (f' j)) m) i))
def EncR (k n c : Int) (m : Nat) (f : Nat → Ent) (d : Ent → List UInt8) (w : World) (r : Ending) (w' : World) : Prop :=
  Below w.heap.size w w' ∧ ((¬ ParamsOk k n c ∧ r = .returned (.tuple #[.slice none 0 0, .int .i64 1])) ∨ (ParamsOk k n c ∧ ¬ NamesFit m f ∧ r = .returned (.tuple #[.slice none 0 0, .int .i64 2])) ∨
    (ParamsOk k n c ∧ ∃ f', Rearr m f f' ∧ Srt m f' ∧ NamesOk (namesOf m f') ∧ ((¬ FewOk (namesOf m f') (sizesOf m f') ∧ r = .returned (.tuple #[.slice none 0 0, .int .i64 3])) ∨
      (FewOk (namesOf m f') (sizesOf m f') ∧ ∃ go cg, r = .returned (.tuple #[.slice (some ⟨go, 0, none⟩) n.toNat cg, .int .i64 0]) ∧ EncOut k.toNat n.toNat c.toNat m f' d w' go))))

def lists2 (h : Nat) (wr : World) (i : Nat) (f : Nat → Ent) (va vb : Value) : Prop :=
  wr.ownsRow h 9 1 va i (nameV (namesOf i f)) ∧ wr.ownsRow h 3 1 vb i (intV (sizesOf i f))

set_option maxHeartbeats 8000000 in
set_option maxRecDepth 100000 in
theorem encR_any (k n c : Int) (m cap : Nat) (bo : Option Addr) (f : Nat → Ent) (d : Ent → List UInt8) (w : World) (hm : m ≤ 1048576) (hcap : m ≤ cap) (hbo : bo = none → cap = 0) (hk : ∀ i, i < m → (f i).k.length ≤ 9223372036854775807) (hl : ∀ i, i < m → (f i).l ≤ 9223372036854775807) (hB : BC w bo m f) (hD : ∀ i, i < m → DataAt w (f i) (d (f i))) :
    Calls Tryd.prog 19 #[.slice bo m cap, .agg #[.int .i64 k, .int .i64 n, .int .i64 c]] w fun r w' => EncR k n c m f d w r w' := by
  obtain ⟨i0, hi0, hz0, hz1, hz2⟩ := info_parts Tryd.infoNm
  obtain ⟨i1, hi1, hy0, hy1, hy2⟩ := info_parts Tryd.infoIn
  obtain ⟨i3, hi3, hw0, hw1, hw2⟩ := info_parts Tryd.infoCol
  have hr0 := RowAt.made w [.int .i64 k, .int .i64 n, .int .i64 c] 28
  have hb0 := (Below.refl w.heap.size w).alloc (Nat.le_refl _) (.cells #[.int .i64 k, .int .i64 n, .int .i64 c] 28)
  have s0 : (w.alloc (.cells #[.int .i64 k, .int .i64 n, .int .i64 c] 28)).heap.size = w.heap.size + 1 := by simp
  have c0 := hr0.cell (i := 0) rfl
  have c1 := hr0.cell (i := 1) rfl
  have c2 := hr0.cell (i := 2) rfl
  by_cases hP : ParamsOk k n c
  case neg =>
    have HP : Hid (¬ ParamsOk k n c) := hP
    go_enter Tryd.func19, Tryd.ntmps19
    go_wp2_with (first | (go_at_call 33; refine (fitParams_any _ _ _ _).mono ?_; rintro r w' ⟨hw', hb⟩; obtain rfl := hb.no HP.out; obtain rfl := hw'.symm))
    go_ret2
    exact ⟨hb0, .inl ⟨HP.out, rfl⟩⟩
  have HP : Hid (ParamsOk k n c) := hP
  obtain ⟨⟨q1, q2, q3⟩, q4, q5⟩ := hP
  obtain ⟨K, rfl⟩ : ∃ K : Nat, k = (K : Int) := ⟨k.toNat, by omega⟩
  obtain ⟨N, rfl⟩ : ∃ N : Nat, n = (N : Int) := ⟨n.toNat, by omega⟩
  obtain ⟨C, rfl⟩ : ∃ C : Nat, c = (C : Int) := ⟨c.toNat, by omega⟩
  have up0 : ∀ {b o : Nat} {u : Value}, w.cell? ⟨b, o, none⟩ = some u → (w.alloc (.cells #[.int .i64 (K : Int), .int .i64 (N : Int), .int .i64 (C : Int)] 28)).cell? ⟨b, o, none⟩ = some u := fun h => below_cell hb0 (Nat.le_refl _) h
  have hB0 := hB.up (w' := w.alloc (.cells #[.int .i64 (K : Int), .int .i64 (N : Int), .int .i64 (C : Int)] 28)) (by simp) up0
  have ks := sorted_any m cap bo f _ hm hcap hbo hB0
  clear up0
  go_enter Tryd.func19, Tryd.ntmps19
  go_wp2_with (first
    | (go_at_call 33; refine (fitParams_any _ _ _ _).mono ?_; rintro r w' ⟨hw', hb⟩; obtain rfl := hb.yes HP.out; obtain rfl := hw'.symm)
    | (go_at_call 34; (with_reducible refine ks.mono ?_); rintro r w1 ⟨b1, f', v, rfl, hR, hS, hO⟩))
  obtain ⟨bo', cap', rfl, _, _, hB1⟩ := BC.of_owns hO
  have hb1 := hb0.trans (b1.mono (by simp))
  have hr1 := hr0.later (S := fun _ => False) (.of_below b1) (by simp) id
  have hs1 := hb1.size
  have hbpl : w.heap.size < w1.heap.size := hr1.lt
  clear ks hO hr0 c0 c1 c2 b1 hb0
  have p0 : lists2 w1.heap.size w1 0 f' (.slice none 0 0) (.slice none 0 0) := ⟨World.ownsRow_nil _ _ _ _, World.ownsRow_nil _ _ _ _⟩
  generalize hh : w1.heap.size = h at *
  go_loopw [7, 8, 10] (fun va vb vi wr => ∃ (i : Nat), i ≤ m ∧ vi = .int .i64 ((i : Nat) : Int) ∧ lists2 h wr i f' va vb ∧ Below h w1 wr) (fun _ _ vi _ => m - (intOf vi).toNat)
  case atStart => exact ⟨0, by omega, rfl, p0, Below.refl _ _⟩
  case round =>
    clear p0
    obtain ⟨i, hi, rfl, ⟨hp, hq⟩, hb⟩ := hrel
    have hs : h ≤ wr.heap.size := hh ▸ hb.size
    by_cases hlt : i < m
    · have hlt' : (i : Int) < (m : Int) := by omega
      obtain ⟨b, o, rfl, hbl, hcell⟩ := hB1.here (by omega)
      have cells : ∀ w', Below h w1 w' → w'.cell? ⟨b, o + i * 2, none⟩ = some (.string ⟨(f' i).k.toArray⟩) ∧ w'.cell? ⟨b, o + i * 2 + 1, none⟩ = some (.slice (f' i).a (f' i).l (f' i).c) := fun w' hb' => ⟨below_cell hb' (by omega) (hcell i hlt).1, below_cell hb' (by omega) (hcell i hlt).2⟩
      obtain ⟨c0, _⟩ := cells wr hb
      clear hcell
      go_wp2_with (first
        | (at_builtin; refine wpList_append_own _ rfl _ _ 33 rfl h 9 i0 (.string ⟨#[]⟩) 1 16 Tryd.underlying33 hi0 hz0 hz1 hz2 rfl (by decide) _ _ _ rfl (hp.alloc _) ⟨wr.heap.size, 0, none⟩ 1 1 [.string ⟨(f' i).k.toArray⟩] rfl rfl (cell_one_newD _ _ _) (one_strD _) (by unfold maxLen; omega) (by omega) (by simp; omega) ?_; intro v2 w2 hp2 hgrow _; have hq2 := app_keep hp hq (by decide) ((Below.refl wr.heap.size wr).alloc (Nat.le_refl _) _) hgrow; have hb2 := hb.trans (app_below hp hs ((Below.refl wr.heap.size wr).alloc (Nat.le_refl _) _) hgrow (Nat.le_refl _)); have hs2 : h ≤ w2.heap.size := hh ▸ hb2.size; have c2 := (cells w2 hb2).2; clear hgrow hp hq hb hs c0)
        | (at_builtin; refine wpList_append_own _ rfl _ _ 34 rfl h 3 i1 (.int .i64 0) 1 8 Tryd.underlying34 hi1 hy0 hy1 hy2 rfl (by decide) _ _ _ rfl (hq2.alloc _) ⟨w2.heap.size, 0, none⟩ 1 1 [.int .i64 ((f' i).l : Int)] rfl rfl (cell_one_newD _ _ _) (one_intD _) (by unfold maxLen; omega) (by omega) (by simp; omega) ?_; intro v3 w3 hq3 hgrow _; have hp3 := app_keep hq2 hp2 (by decide) ((Below.refl w2.heap.size w2).alloc (Nat.le_refl _) _) hgrow; have hb3 := hb2.trans (app_below hq2 hs2 ((Below.refl w2.heap.size w2).alloc (Nat.le_refl _) _) hgrow (Nat.le_refl _)); clear hgrow hq2 hp2 hb2 hs2 c2))
      go_roundw
      case rel => exact ⟨i + 1, by omega, by go_num, ⟨by rw [namesV_succ]; exact hp3, by rw [sizesV_succ]; exact hq3⟩, hb3⟩
      case measure => simp [intOf]; omega
    · obtain rfl : i = m := by omega
      have hnl : ¬ ((i : Int) < (i : Int)) := by omega
      have hkl : ∀ n ∈ namesOf i f', n.length ≤ 9223372036854775807 := fun nm hnm => by
        obtain ⟨j, hj, rfl⟩ := List.mem_map.1 hnm
        obtain ⟨j', hj', e⟩ := hR.from (List.mem_range.1 hj)
        rw [e]
        exact hk j' hj'
      have hll : ∀ j, j < i → (f' j).l ≤ 9223372036854775807 := fun j hj => by
        obtain ⟨j', hj', e⟩ := hR.from hj
        rw [e]
        exact hl j' hj'
      have kn := fitNames_any _ (namesOf i f') (by rw [namesOf_length]; omega) hkl wr (lies_owns hp)
      have hbw : Below w.heap.size w wr := hb1.trans (hb.mono hs1)
      by_cases hN : NamesOk (namesOf i f')
      case neg =>
        have HN : Hid (¬ NamesOk (namesOf i f')) := hN
        go_wp2_with (first | (go_at_call 35; refine kn.mono ?_; rintro r w' ⟨hb2, ht⟩; obtain rfl := ht.no HN.out))
        go_ret2
        exact ⟨hbw.trans (hb2.mono hbw.size), .inr (.inl ⟨HP.out, fun h => HN.out ((names_iff hR hS).2 h), rfl⟩)⟩
      have HN : Hid (NamesOk (namesOf i f')) := hN
      have hlist := names_listed hN
      have km : ∀ w2, Below wr.heap.size wr w2 → _ := fun w2 hb2 => fitMany_any u7 u8 (namesOf i f') (sizesOf i f') (by rw [namesOf_length]; omega) (by rw [sizesOf_length]; omega) hlist (sizes_le i f' hll) w2 (lies_owns (owns_below hp hb2 (Nat.le_refl _))) (lies_owns (owns_below hq hb2 (Nat.le_refl _)))
      by_cases hF : FewOk (namesOf i f') (sizesOf i f')
      case neg =>
        have HF : Hid (¬ FewOk (namesOf i f') (sizesOf i f')) := hF
        go_wp2_with (first | (go_at_call 35; refine kn.mono ?_; rintro r w2 ⟨hb2, ht⟩; obtain rfl := ht.yes HN.out) | (go_at_call 36; refine (km _ hb2).mono ?_; rintro r w3 ⟨hw3, ht2⟩; obtain rfl := ht2.no HF.out; obtain rfl := hw3.symm))
        go_ret2
        exact ⟨hbw.trans (hb2.mono hbw.size), .inr (.inr ⟨HP.out, f', hR, hS, HN.out, .inl ⟨HF.out, rfl⟩⟩)⟩
      have HF : Hid (FewOk (namesOf i f') (sizesOf i f')) := hF
      have hlens : ∀ g, Rearr i f g → ∀ j, j < i → (d (g j)).length = (g j).l := fun g hg j hj => by
        obtain ⟨j', hj', e⟩ := hg.from hj
        rw [e]
        exact (hD j' hj').1
      have htot := tot_sizes d f' i (hlens f' hR)
      have hone : ∀ g, Rearr i f g → Srt i g → ∀ j, j < i → g j = f' j := fun g hg hSg => sorted_one hR hg (names_strict hN) hSg
      have hT : ∀ g, Rearr i f g → Srt i g → (joinD (fun j => d (g j)) i).length ≤ 65536 := fun g hg hSg => by
        rw [join_same i (hone g hg hSg), ← htot]
        exact hF.2.1
      have hfew := hF.1
      rw [namesOf_length] at hfew
      have ksh : ∀ w2, Below w.heap.size w w2 → _ := fun w2 hb2 => shards_any K N C i cap bo f d w2 (by omega) (by omega) (by omega) hm hcap hbo (hB.up hb2.size fun h => below_cell hb2 (Nat.le_refl _) h) (fun j hj => (hD j hj).grow hb2.size fun h => below_cell hb2 (Nat.le_refl _) h) hT
      go_wp2_with (first
        | (go_at_call 35; refine kn.mono ?_; rintro r w2 ⟨hb2, ht⟩; obtain rfl := ht.yes HN.out; have hbw2 := hbw.trans (hb2.mono hbw.size); have hr2 := hr1.later (S := fun _ => False) (.of_below (hb.trans (hb2.mono hs))) hbpl id; have e0 := hr2.cell (i := 0) rfl; have e1 := hr2.cell (i := 1) rfl; have e2 := hr2.cell (i := 2) rfl)
        | (go_at_call 36; refine (km _ hb2).mono ?_; rintro r w3 ⟨hw3, ht2⟩; obtain rfl := ht2.yes HF.out; obtain rfl := hw3.symm)
        | (go_at_call 37; refine (ksh _ hbw2).mono ?_; rintro r w4 ⟨hb4, f2, bN, bZ, cN, cZ, bS, cS, a, cp, hR2, hS2, rfl, hvN, hvS, hSh, hcols⟩))
      have eN := names_same (hone f2 hR2 hS2)
      have eZ := sizes_same (hone f2 hR2 hS2)
      have eJ := join_same (d := d) i (hone f2 hR2 hS2)
      rw [eN] at hvN
      rw [eZ] at hvS
      rw [eJ] at hSh hcols
      have hbw4 := hbw2.trans (hb4.mono hbw2.size)
      have hs4 := hbw4.size
      have hs2 := hbw2.size
      have hjl : (joinD (fun j => d (f' j)) i).length ≤ 65536 := hT f' hR hS
      have hLb : lenC K (joinD (fun j => d (f' j)) i).length ≤ 65536 := by
        have := lenC_le (k := K) (by omega) (joinD (fun j => d (f' j)) i).length
        omega
      have htt : tot (sizesOf i f') ≤ 65536 := hF.2.1
      have HL : Hid (ListOk (namesOf i f') (sizesOf i f')) := hlist
      have fin : ∀ (w2 : World) (go cg : Nat) (ov : Nat → Value), Below w4.heap.size w4 w2 → (∀ t, t < N → w2.cell? ⟨go, t, none⟩ = some (ov t)) → (∀ t, t < N → OwnB w4.heap.size w2 (ov t) (shardB K N C (namesOf i f') (sizesOf i f') t (colB K (lenC K (joinD (fun j => d (f' j)) i).length) (joinD (fun j => d (f' j)) i) t))) →
          EncR (K : Int) (N : Int) (C : Int) i f d w (.returned (.tuple #[.slice (some ⟨go, 0, none⟩) N cg, .int .i64 0])) w2 := fun w2 go cg ov hb2 h1 h2 =>
        ⟨hbw4.trans (hb2.mono hs4), .inr (.inr ⟨HP.out, f', hR, hS, HN.out, .inr ⟨HF.out, go, cg, by simp, ov, by simpa using h1, by simpa using fun t ht => holds8_ownB (h2 t ht)⟩⟩)⟩
      clear ksh km kn hone hlens hT hkl hll hp hq hb hbw hB1 hB hD hr1 hr2 e0 e1 e2 hb4 hb2 hR hS hR2 hS2 eN eZ eJ htot hlist hF hN
      generalize hL : lenC K (joinD (fun j => d (f' j)) i).length = L at *
      generalize hll : joinD (fun j => d (f' j)) i = l at *
      generalize hns : namesOf i f' = ns at *
      generalize hzs : sizesOf i f' = zs at *
      have hnl2 : ns.length ≤ 1000 := by rw [← hns, namesOf_length]; exact hfew
      have p1 : w4.ownsRow w4.heap.size 24 1 (.slice none 0 0) 0 (outL (fun _ => .slice none 0 0) 0) := World.ownsRow_nil _ _ _ _
      generalize hBs : w4.heap.size = B at *
      go_loopw [12, 13, 14] (fun vs vi _ wq => ∃ (j : Nat) (ov : Nat → Value), j ≤ N ∧ vi = .int .i64 ((j : Nat) : Int) ∧ wq.ownsRow B 24 1 vs j (outL ov j) ∧ (∀ t, t < j → OwnB B wq (ov t) (shardB K N C ns zs t (colB K L l t))) ∧ Below B w4 wq) (fun _ vi _ _ => N - (intOf vi).toNat)
      case atStart => exact ⟨0, fun _ => .slice none 0 0, by omega, rfl, p1, fun t ht => absurd ht (by omega), Below.refl _ _⟩
      case round =>
        clear p1
        obtain ⟨j, ov, hj, rfl, hV, hown, hb⟩ := hrel
        have hs : B ≤ wr.heap.size := hBs ▸ hb.size
        by_cases hlt2 : j < N
        · have hlt2' : (j : Int) < (N : Int) := by omega
          have cell : ∀ p u, p < 7 → (shC K N C (.slice bN i cN) (.slice bZ i cZ) L a cp j)[p]? = some u → wr.cell? ⟨bS, j * 7 + p, none⟩ = some u := fun p u hp7 e => by
            have h1 := owns_below hSh hb (by omega)
            rw [h1.cellAt (j * 7 + p) (by omega), shL_get _ _ _ hlt2 hp7]
            exact e
          have g0 := cell 0 _ (by omega) rfl
          have g1 := cell 1 _ (by omega) rfl
          have g2 := cell 2 _ (by omega) rfl
          have g3 := cell 3 _ (by omega) rfl
          have g4 := cell 4 _ (by omega) rfl
          have g5 := cell 5 _ (by omega) rfl
          have g6 := cell 6 _ (by omega) rfl
          rw [Nat.add_zero] at g0
          clear cell
          have kw := rwritten_any K N j C (by omega) (by omega) (by omega) (by omega) (by omega) ns zs (colB K L l j) HL hnl2 htt (by rw [colB_length]; exact hLb) (.slice bN i cN) (.slice bZ i cZ) (a j) (cp j) wr (lies_owns (owns_below hvN hb (by omega))) (lies_owns (owns_below hvS hb (by omega))) (by rw [colB_length, colB_V]; exact lies_owns (owns_below (hcols j hlt2) hb (by omega)))
          rw [colB_length] at kw
          have hkw : Calls Tryd.prog 38 #[.agg #[.int .i64 (K : Int), .int .i64 (N : Int), .int .i64 (j : Int), .int .i64 (C : Int), .slice bN i cN, .slice bZ i cZ, .slice (a j) L (cp j)]] wr fun r w' => ∃ v, r = .returned v ∧ OwnB wr.heap.size w' v (shardB K N C ns zs j (colB K L l j)) ∧ Below wr.heap.size wr w' := by
            unfold shardB
            rw [colB_length]
            exact kw
          clear kw
          go_wp2_with (first
            | (go_at_call 38; (with_reducible refine hkw.mono ?_); rintro r w2 ⟨vo, rfl, ho, hb2⟩; clear hkw; obtain ⟨xo, co, rfl⟩ := owns_form ho; have hs2 := hb2.size; have hV2 := owns_below hV hb2 (Nat.le_refl _); have hown2 := fun t ht => owns_below (hown t ht) hb2 (Nat.le_refl _); have ho2 := World.ownsRow.mono (base' := B) ho (by omega); have hbw2 := hb.trans (hb2.mono hs); clear hV hown hb ho g0 g1 g2 g3 g4 g5 g6)
            | (at_builtin; refine wpList_append_own _ rfl _ _ 29 rfl B 24 i3 (.slice none 0 0) 1 24 Tryd.underlying29 hi3 hw0 hw1 hw2 rfl (by decide) _ _ _ rfl (hV2.alloc _) ⟨w2.heap.size, 0, none⟩ 1 1 [.slice xo (shardB K N C ns zs j (colB K L l j)).length co] rfl rfl (cell_one_newD _ _ _) (one_colD _ _ _) (by unfold maxLen; omega) (by omega) (by simp; omega) ?_; intro v3 w3 hV3 hgrow _))
          have hb3 := hbw2.trans (app_below hV2 (by omega) ((Below.refl _ _).alloc (Nat.le_refl _) _) hgrow (Nat.le_refl _))
          have kp : ∀ {v : Value} {q : Nat} {xs : List Value}, w2.ownsRow B 5 1 v q xs → w3.ownsRow B 5 1 v q xs := fun h => app_keep hV2 h (by decide) ((Below.refl _ _).alloc (Nat.le_refl _) _) hgrow
          have ho3 := kp ho2
          have hown3 := fun t ht => kp (hown2 t ht)
          clear hgrow hV2 hbw2 hown2 ho2 kp
          have hV4 : w3.ownsRow B 24 1 v3 (j + 1) (outL (fun t => if t = j then .slice xo (shardB K N C ns zs j (colB K L l j)).length co else ov t) (j + 1)) := by
            rw [outL_succ, if_pos rfl, outL_congr (ov' := ov) fun t ht => if_neg (by omega)]
            exact hV3
          clear hV3
          go_roundw
          case rel => exact ⟨j + 1, _, by omega, by go_num, hV4, fun t ht => by
            by_cases e : t = j
            · subst e
              simp only [if_true]
              exact ho3
            · simp only [if_neg e]
              exact hown3 t (by omega), hb3⟩
          case measure => simp [intOf]; omega
        · have hjk : j = N := by omega
          rw [hjk] at hV hown ⊢
          clear hj hlt2 hjk
          have hnl3 : ¬ ((N : Int) < (N : Int)) := by omega
          obtain ⟨go, cg, rfl, _, _⟩ := hV.form (by omega)
          have hfin := fin wr go cg ov hb (fun t ht => by rw [hV.cellAt t (by omega)]; simp [outL, ht]) hown
          clear hown hV fin
          go_wp2
          go_ret2
          exact hfin
end Go.Proofs.YtkpcmfgeanlcnaaDoor

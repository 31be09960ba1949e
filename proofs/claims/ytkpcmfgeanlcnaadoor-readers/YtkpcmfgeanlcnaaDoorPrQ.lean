/-
  How the program reads a shard: the manifest (readManifest).
-/
import Derived.Test.YtkpcmfgeanlcnaaDoorPrP
import Derived.Test.YtkpcmfgeanlcnaaDoorPrK
import Derived.Laws.MakeOwn
namespace Go.Proofs.YtkpcmfgeanlcnaaDoor
open Go.RowKit Go.Deep

theorem owns_base {w : World} {B B' e n : Nat} {v : Value} {xs : List Value} (h : w.ownsRow B' e 1 v n xs) (hB : B ≤ B') : w.ownsRow B e 1 v n xs := by
  refine ⟨h.1, ?_⟩
  rcases h.2 with x | ⟨g, cap, cur, e1, h1, h2⟩
  · exact .inl x
  · exact .inr ⟨g, cap, cur, e1, Nat.le_trans hB h1, h2⟩
/-- The lists of names and sizes are laid into the Reading. -/
theorem RI.lists {B rb : Nat} {w : World} {s : St} {t : List UInt8} {vN vS vC vT vN' vS' : Value} {ns : List (List UInt8)} {zs : List Nat} (I : RI B w rb s t vN vS vC vT) (hn : w.ownsRow B 9 1 vN' ns.length (strV ns)) (hs : w.ownsRow B 3 1 vS' zs.length (natV zs)) (tt : Nat) :
    RI B (((w.setCell ⟨rb, 4, none⟩ vN').setCell ⟨rb, 5, none⟩ vS').setCell ⟨rb, 9, none⟩ (.int .i64 (tt : Int))) rb { s with ns := ns, zs := zs, tt := tt } t vN' vS' vC vT ∧ But w.heap.size (· = rb) w (((w.setCell ⟨rb, 4, none⟩ vN').setCell ⟨rb, 5, none⟩ vS').setCell ⟨rb, 9, none⟩ (.int .i64 (tt : Int))) := by
  have hB : But w.heap.size (· = rb) w (((w.setCell ⟨rb, 4, none⟩ vN').setCell ⟨rb, 5, none⟩ vS').setCell ⟨rb, 9, none⟩ (.int .i64 (tt : Int))) := (((But.refl w.heap.size (· = rb) w).setCell (p := ⟨rb, 4, none⟩) (.inr rfl) vN').setCell (p := ⟨rb, 5, none⟩) (.inr rfl) vS').setCell (p := ⟨rb, 9, none⟩) (.inr rfl) _
  have key : ∀ {e n : Nat} {v : Value} {xs : List Value}, w.ownsRow B e 1 v n xs → e ≠ 78 → (((w.setCell ⟨rb, 4, none⟩ vN').setCell ⟨rb, 5, none⟩ vS').setCell ⟨rb, 9, none⟩ (.int .i64 (tt : Int))).ownsRow B e 1 v n xs := fun h he => owns_later h (fun g hg' => hB.block g (h.lt g hg').2 (fun e => owns_rd h I.rd he (by rw [hg', e])))
  have hR : RdAt (((w.setCell ⟨rb, 4, none⟩ vN').setCell ⟨rb, 5, none⟩ vS').setCell ⟨rb, 9, none⟩ (.int .i64 (tt : Int))) rb (({ s with ns := ns, zs := zs, tt := tt } : St).rd vN' vS' vC vT .nilIface) := ((RowAt.set I.rd 4 vN').set 5 vS').set 9 (.int .i64 (tt : Int))
  exact ⟨⟨hR, key hn (by decide), key hs (by decide), key I.oc (by decide), key I.ot (by decide), I.ap, Nat.le_trans I.size hB.size⟩, hB⟩
/-- A new column. -/
theorem RI.newcol {B rb : Nat} {w w1 : World} {s : St} {t : List UInt8} {vN vS vC vT v1 : Value} (I : RI B w rb s t vN vS vC vT) (hb : Below w.heap.size w w1) (h1 : OwnB B w1 v1 []) (hk : v1.ownBlock = some w.heap.size) :
    RI B (w1.setCell ⟨rb, 6, none⟩ v1) rb { s with col := [] } t vN vS v1 vT ∧ But w.heap.size (· = rb) w (w1.setCell ⟨rb, 6, none⟩ v1) ∧ w1.cell? ⟨rb, 6, none⟩ = some vC ∧ w1.frozen? ⟨rb, 6, none⟩ = false := by
  have I1 := I.below hb
  have hR2 : RdAt (w1.setCell ⟨rb, 6, none⟩ v1) rb (({ s with col := [] } : St).rd vN vS v1 vT .nilIface) := RowAt.set I1.rd 6 v1
  refine ⟨⟨hR2, owns_set I1.on (owns_rd I1.on I1.rd (by decide)), owns_set I1.os (owns_rd I1.os I1.rd (by decide)), owns_set h1 (owns_rd h1 I1.rd (by decide)), owns_set I1.ot (owns_rd I1.ot I1.rd (by decide)), ?_, ?_⟩, ?_, RowAt.cell I1.rd (i := 6) rfl, RowAt.frozen I1.rd 6⟩
  · intro g hg1 hg2
    have h2 := (World.ownsRow.lt I.ot g hg2).2
    rw [hk] at hg1
    cases hg1
    omega
  · have := I1.size; simpa using this
  · exact But.setCell (S := (· = rb)) (But.of_below hb) (p := ⟨rb, 6, none⟩) (.inr rfl) v1
section
variable (B rb : Nat) (s : St) (t : List UInt8) (vN vS vC vT : Value) (hb : Bd s) (ht : t.length ≤ s.sz) (w : World) (I : RI B w rb s t vN vS vC vT) (hTab : Tab w) (hPow : Pow w) (h16 : 4 ≤ w.heap.size)
set_option maxHeartbeats 4000000 in
set_option maxRecDepth 100000 in
include hb ht I hTab hPow h16 in
theorem readManifest_any (hnx : s.nx = 1) (hk1 : 1 ≤ s.k) (hk2 : s.k ≤ 128) (hm4 : 4 ≤ s.m) : Calls Tryd.prog 136 #[.pointer (some ⟨rb, 0, none⟩)] w fun q w' => ReadOut B w rb s t vN vS vC vT (manP s t) 1 q w' := by
  obtain ⟨bc, cc, eC, hcc⟩ := I.oc.slice
  obtain ⟨bt, ct, eT, hct⟩ := I.ot.slice
  have hz := St.sz_le hb
  have KS := rsealed_any rb (s.rd vN vS vC vT .nilIface) bc s.col.length cc eC (by have := hb.m; exact Nat.le_trans this (by omega)) (by have := hb.c; exact Nat.le_trans this (by omega)) (by have := hb.ln; exact Nat.le_trans this (by omega)) hb.col (by rw [show (s.rd vN vS vC vT .nilIface).nx = s.nx from rfl]; omega) t bt ct eT (by omega) (by have := hb.pl; exact Nat.le_trans this (by omega)) w I.rd I.ot.lies hTab
  have hsz : sizeR s.nx s.c s.m s.ln s.col.length = s.sz := rfl
  simp only [St.rd, hsz] at KS
  have hSP : sealT s.sz s.pl t = sealP s t := rfl
  simp only [hSP] at KS
  unfold manP
  cases hse : sealP s t with
  | some e =>
    unfold SealPost at KS
    rw [hse] at KS
    simp only at KS ⊢
    clear hse
    go_enter Tryd.func136, Tryd.ntmps136
    go_wp2_with (first | (go_at_call 149; refine KS.mono ?_; rintro q w2 ⟨v, rfl, g1, g2⟩; obtain ⟨ty, x, rfl⟩ := g1.iface))
    go_ret
    exact ReadOut.fault I (Nat.zero_le _) g1 g2
  | none =>
    unfold SealPost at KS
    rw [hse] at KS
    simp only at KS ⊢
    have hz1 := sz1 hnx
    have hl8 : t.length = s.sz := by
      unfold sealP at hse
      split at hse
      · cases hse
      · omega
    obtain ⟨b, off, ebt, hB, hbr⟩ : ∃ b off, bt = some ⟨b, off, none⟩ ∧ Byt w b off t ∧ b ≠ rb := by
      have hot := I.ot
      have hne := owns_rd I.ot I.rd (by decide)
      unfold OwnB at hot
      obtain ⟨g, c, e, _, _, _, _, hB⟩ := owns_byt hot (by omega)
      rw [eT] at e hne
      cases e
      exact ⟨g, 0, rfl, hB, fun e => hne (by rw [e]; rfl)⟩
    subst ebt
    have em : t.length - 8 = s.m := by omega
    have hu : (part t 0 s.m).length = s.m := part_length (by omega)
    have hBu : Byt w b off (part t 0 s.m) := by have := hB.part (a := 0) (n := s.m) (by omega); exact this
    rw [em] at KS ⊢
    have hpl := hb.pl
    have hm := hb.m
    have c11 := RowAt.cell I.rd (i := 11) rfl
    simp only [St.rd] at c11
    obtain ⟨pl, epl⟩ : ∃ pl, s.pl = pl := ⟨_, rfl⟩
    obtain ⟨m, emm⟩ : ∃ m, s.m = m := ⟨_, rfl⟩
    obtain ⟨u, eu⟩ : ∃ u, part t 0 s.m = u := ⟨_, rfl⟩
    rw [eu] at hu hBu ⊢
    rw [epl] at c11 hpl ⊢
    rw [emm] at KS hu hm hm4
    clear hse hl8 hsz hSP
    have hPowD : ∀ j, Pow (w.drewN j) := fun j => hPow.but (S := fun _ => False) (B := w.heap.size) ((But.refl _ _ _).drewN j) (fun k hk => ⟨by omega, id⟩)
    have facts : ∀ j w2, w2 = w.drewN j → RI B w2 rb s t vN vS vC vT ∧ w2.cell? ⟨rb, 11, none⟩ = some (.int .i64 (pl : Int)) ∧ Pow w2 ∧ 4 ≤ w2.heap.size ∧ But w.heap.size (fun _ => False) w w2 ∧ Byt w2 b off u ∧ w.heap.size = w2.heap.size := by
      rintro j w2 rfl
      exact ⟨I.drewN j, by simpa using c11, hPowD j, h16, (But.refl _ _ _).drewN j, hBu, rfl⟩
    clear hPowD c11 hBu hPow hTab
    cases hL : listP u with
    | error p =>
      simp only
      go_enter Tryd.func136, Tryd.ntmps136
      go_upto_region 5 with (first | (go_at_call 149; refine KS.mono ?_; rintro q w2 ⟨rfl, j, hw2⟩; obtain ⟨I2, c11, hP2, h162, hb2, hB2, hs2⟩ := facts j w2 hw2; have HS2 : Hid (w.heap.size = w2.heap.size) := hs2; clear hw2 hs2 facts I hB KS))
      have hA3 := (Below.refl w2.heap.size w2).alloc (Nat.le_refl _) (.cells (lsL (.slice (some ⟨b, off, none⟩) m ct) pl 0 (.slice none 0 0) (.slice none 0 0) 0).toArray 223)
      have hL3 : LsAt (w2.alloc (.cells (lsL (.slice (some ⟨b, off, none⟩) m ct) pl 0 (.slice none 0 0) (.slice none 0 0) 0).toArray 223)) w2.heap.size (.slice (some ⟨b, off, none⟩) m ct) pl 0 (.slice none 0 0) (.slice none 0 0) 0 := RowAt.made w2 _ _
      have hs3 : w2.heap.size < (w2.alloc (.cells (lsL (.slice (some ⟨b, off, none⟩) m ct) pl 0 (.slice none 0 0) (.slice none 0 0) 0).toArray 223)).heap.size := by simp
      have hbl : b < w2.heap.size := cell_lt (hB2 0 (by omega))
      unfold lsL at hA3 hL3 hs3
      generalize hw3 : w2.alloc _ = w3 at hA3 hL3 hs3 ⊢
      clear hw3
      have hB3 : Byt w3 b off u := hB2.later (S := fun _ => False) (.of_below hA3) hbl id
      have hP3 : Pow w3 := hP2.but (S := fun _ => False) (.of_below hA3) (fun k hk => ⟨by omega, id⟩)
      rw [← hu] at hL3
      have LI : LsI w3.heap.size w3 w2.heap.size b off ct u pl 0 (.slice none 0 0) (.slice none 0 0) [] [] := ⟨hL3, World.ownsRow_nil _ _ _ _, World.ownsRow_nil _ _ _ _, fun g hg => (by cases hg), hB3, Nat.le_refl _⟩
      have KL := lread_any w3.heap.size w2.heap.size b off ct u pl hs3 (by omega) (by omega) (by omega) (by omega) (by omega) (by omega) w3 LI hP3 h162
      unfold ListPost at KL
      have hfr : ∀ w4, But w3.heap.size (· = w2.heap.size) w3 w4 → Below w2.heap.size w2 w4 := fun w4 h => hA3.trans ⟨h.os, h.tape, h.output, h.size, fun k hk => h.block k (by omega) (by omega)⟩
      have hfw : ∀ w4, Below w2.heap.size w2 w4 → Below w.heap.size w w4 := fun w4 h => (hb2.below (fun _ _ => id)).trans (h.mono (by rw [HS2.out]; exact Nat.le_refl _))
      rw [hL] at KL
      simp only at KL
      have HLZ := HS2
      clear hL LI hL3
      go_wp2_with (first | (go_at_call 151; refine KL.mono ?_; rintro q w4 ⟨g1, v, d, hd, rfl, g2⟩; obtain ⟨ty, x, rfl⟩ := g2.iface))
      go_ret
      have I4 := I2.below (hfr _ g1)
      exact ⟨.of_below (hfw _ (hfr _ g1)), ⟨_, d, hd, rfl, g2⟩, ⟨_, I4.rd⟩, fun h => by cases h⟩

    | ok x =>
      obtain ⟨ns, zs⟩ := x
      simp only
      have HSum : Hid (zs.sum ≤ 65536) := by
        show _ ≤ _
        unfold listP at hL
        split at hL
        · cases hL
        · exact loopP_sum _ _ _ _ _ (by simp) hL
      by_cases qn : s.ln = lenC s.k zs.sum
      · rw [if_pos qn]
        go_enter Tryd.func136, Tryd.ntmps136
        go_upto_region 5 with (first | (go_at_call 149; refine KS.mono ?_; rintro q w2 ⟨rfl, j, hw2⟩; obtain ⟨I2, c11, hP2, h162, hb2, hB2, hs2⟩ := facts j w2 hw2; have HS2 : Hid (w.heap.size = w2.heap.size) := hs2; clear hw2 hs2 facts I hB KS))
        have hA3 := (Below.refl w2.heap.size w2).alloc (Nat.le_refl _) (.cells (lsL (.slice (some ⟨b, off, none⟩) m ct) pl 0 (.slice none 0 0) (.slice none 0 0) 0).toArray 223)
        have hL3 : LsAt (w2.alloc (.cells (lsL (.slice (some ⟨b, off, none⟩) m ct) pl 0 (.slice none 0 0) (.slice none 0 0) 0).toArray 223)) w2.heap.size (.slice (some ⟨b, off, none⟩) m ct) pl 0 (.slice none 0 0) (.slice none 0 0) 0 := RowAt.made w2 _ _
        have hs3 : w2.heap.size < (w2.alloc (.cells (lsL (.slice (some ⟨b, off, none⟩) m ct) pl 0 (.slice none 0 0) (.slice none 0 0) 0).toArray 223)).heap.size := by simp
        have hbl : b < w2.heap.size := cell_lt (hB2 0 (by omega))
        unfold lsL at hA3 hL3 hs3
        generalize hw3 : w2.alloc _ = w3 at hA3 hL3 hs3 ⊢
        clear hw3
        have hB3 : Byt w3 b off u := hB2.later (S := fun _ => False) (.of_below hA3) hbl id
        have hP3 : Pow w3 := hP2.but (S := fun _ => False) (.of_below hA3) (fun k hk => ⟨by omega, id⟩)
        rw [← hu] at hL3
        have LI : LsI w3.heap.size w3 w2.heap.size b off ct u pl 0 (.slice none 0 0) (.slice none 0 0) [] [] := ⟨hL3, World.ownsRow_nil _ _ _ _, World.ownsRow_nil _ _ _ _, fun g hg => (by cases hg), hB3, Nat.le_refl _⟩
        have KL := lread_any w3.heap.size w2.heap.size b off ct u pl hs3 (by omega) (by omega) (by omega) (by omega) (by omega) (by omega) w3 LI hP3 h162
        unfold ListPost at KL
        have hfr : ∀ w4, But w3.heap.size (· = w2.heap.size) w3 w4 → Below w2.heap.size w2 w4 := fun w4 h => hA3.trans ⟨h.os, h.tape, h.output, h.size, fun k hk => h.block k (by omega) (by omega)⟩
        have hfw : ∀ w4, Below w2.heap.size w2 w4 → Below w.heap.size w w4 := fun w4 h => (hb2.below (fun _ _ => id)).trans (h.mono (by rw [HS2.out]; exact Nat.le_refl _))
        rw [hL] at KL
        simp only at KL
        clear hL LI hL3
        go_upto_region 8 with (first | (go_at_call 151; refine KL.mono ?_; rintro q w4 ⟨g1, rfl, vN2, vS2, a2, g2⟩))
        have I4 := I2.below (hfr _ g1)
        have hB4 := hfw _ (hfr _ g1)
        have d3 := RowAt.cell g2.ls (i := 3) rfl
        have d4 := RowAt.cell g2.ls (i := 4) rfl
        have d5 := RowAt.cell g2.ls (i := 5) rfl
        have c4 := RowAt.cell I4.rd (i := 4) rfl
        have c5 := RowAt.cell I4.rd (i := 5) rfl
        have c9 := RowAt.cell I4.rd (i := 9) rfl
        have f0 := RowAt.frozen I4.rd
        obtain ⟨bn, cn, en⟩ := owns_slice g2.on
        obtain ⟨bz, cz, ez⟩ := owns_slice g2.os
        subst en ez
        go_upto_region 9 with (fail)
        obtain ⟨I5, hB5⟩ := I4.lists (owns_base g2.on (by have := I2.size; omega)) (owns_base g2.os (by have := I2.size; omega)) zs.sum
        have hB6 : But w.heap.size (Mine rb vC vT) w _ := (But.of_below hB4).trans (hB5.mono hB4.size (fun _ x => .inl x))
        clear d3 d4 d5 c4 c5 c9 f0 I4 hB5
        generalize (((w4.setCell ⟨rb, 4, none⟩ (.slice bn ns.length cn)).setCell ⟨rb, 5, none⟩ (.slice bz zs.length cz)).setCell ⟨rb, 9, none⟩ (.int .i64 (zs.sum : Nat))) = w5 at I5 hB6 ⊢
        have c0 := RowAt.cell I5.rd (i := 0) rfl
        have c8 := RowAt.cell I5.rd (i := 8) rfl
        have c9 := RowAt.cell I5.rd (i := 9) rfl
        simp only [St.rd] at c0 c8 c9
        have hln := hb.ln
        have KC := fun j => clength_any (s.k : Int) (zs.sum : Int) s.k zs.sum rfl rfl hk1 (by omega) HSum.out (w5.drewN j)
        obtain ⟨Z, eZ⟩ : ∃ Z, zs.sum = Z := ⟨_, rfl⟩
        obtain ⟨LN, eLN⟩ : ∃ LN, s.ln = LN := ⟨_, rfl⟩
        rw [eZ] at c9 KC
        rw [eLN] at c8 hln
        obtain ⟨LC, eLC⟩ : ∃ LC, lenC s.k Z = LC := ⟨_, rfl⟩
        simp only [eLC] at KC
        have HZ : Hid (zs.sum = Z) := eZ
        obtain rfl : LN = LC := by rw [← eLN, qn, eZ, eLC]
        clear eZ eLC qn
        go_wp2_with fail
        go_big_quiet (first | (go_at_call 76; exact (KC _).mono (fun _ _ h => ⟨h.1, _, h.2⟩)))
        obtain ⟨i0, hi0, hz0, hzz1, hzz2⟩ := info_parts infoB8
        obtain ⟨w6, hmk, ho6, hg6⟩ := run_make_own (P := Tryd.prog) (w5.drewN nq) B 24 5 i0 (.int .u8 0) 1 Tryd.underlying24 hi0 hz0 hzz1 .i64 .i64 LN (by rw [hzz2]; omega) (by unfold maxLen; omega) I5.size
        have hb6 : Below w5.heap.size w5 w6 := below_of_drewN ((Below.refl (w5.drewN nq).heap.size (w5.drewN nq)).grown hg6 (Nat.le_refl _) (fun k hk => by cases hk))
        obtain ⟨I6, hB7, x6, f6⟩ := I5.newcol hb6 (OwnB.of ho6) rfl
        go_wp2
        subst emm eLN epl
        rw [hnx] at I6
        rw [← eC, ← eT]
        go_ret
        refine ⟨hB6.trans (hB7.mono hB6.size (fun _ x => .inl x)), rfl, _, _, _, I6, .inr ⟨_, rfl, hB6.size⟩⟩
      · rw [if_neg qn]
        go_enter Tryd.func136, Tryd.ntmps136
        go_upto_region 5 with (first | (go_at_call 149; refine KS.mono ?_; rintro q w2 ⟨rfl, j, hw2⟩; obtain ⟨I2, c11, hP2, h162, hb2, hB2, hs2⟩ := facts j w2 hw2; have HS2 : Hid (w.heap.size = w2.heap.size) := hs2; clear hw2 hs2 facts I hB KS))
        have hA3 := (Below.refl w2.heap.size w2).alloc (Nat.le_refl _) (.cells (lsL (.slice (some ⟨b, off, none⟩) m ct) pl 0 (.slice none 0 0) (.slice none 0 0) 0).toArray 223)
        have hL3 : LsAt (w2.alloc (.cells (lsL (.slice (some ⟨b, off, none⟩) m ct) pl 0 (.slice none 0 0) (.slice none 0 0) 0).toArray 223)) w2.heap.size (.slice (some ⟨b, off, none⟩) m ct) pl 0 (.slice none 0 0) (.slice none 0 0) 0 := RowAt.made w2 _ _
        have hs3 : w2.heap.size < (w2.alloc (.cells (lsL (.slice (some ⟨b, off, none⟩) m ct) pl 0 (.slice none 0 0) (.slice none 0 0) 0).toArray 223)).heap.size := by simp
        have hbl : b < w2.heap.size := cell_lt (hB2 0 (by omega))
        unfold lsL at hA3 hL3 hs3
        generalize hw3 : w2.alloc _ = w3 at hA3 hL3 hs3 ⊢
        clear hw3
        have hB3 : Byt w3 b off u := hB2.later (S := fun _ => False) (.of_below hA3) hbl id
        have hP3 : Pow w3 := hP2.but (S := fun _ => False) (.of_below hA3) (fun k hk => ⟨by omega, id⟩)
        rw [← hu] at hL3
        have LI : LsI w3.heap.size w3 w2.heap.size b off ct u pl 0 (.slice none 0 0) (.slice none 0 0) [] [] := ⟨hL3, World.ownsRow_nil _ _ _ _, World.ownsRow_nil _ _ _ _, fun g hg => (by cases hg), hB3, Nat.le_refl _⟩
        have KL := lread_any w3.heap.size w2.heap.size b off ct u pl hs3 (by omega) (by omega) (by omega) (by omega) (by omega) (by omega) w3 LI hP3 h162
        unfold ListPost at KL
        have hfr : ∀ w4, But w3.heap.size (· = w2.heap.size) w3 w4 → Below w2.heap.size w2 w4 := fun w4 h => hA3.trans ⟨h.os, h.tape, h.output, h.size, fun k hk => h.block k (by omega) (by omega)⟩
        have hfw : ∀ w4, Below w2.heap.size w2 w4 → Below w.heap.size w w4 := fun w4 h => (hb2.below (fun _ _ => id)).trans (h.mono (by rw [HS2.out]; exact Nat.le_refl _))
        rw [hL] at KL
        simp only at KL
        clear hL LI hL3
        go_upto_region 8 with (first | (go_at_call 151; refine KL.mono ?_; rintro q w4 ⟨g1, rfl, vN2, vS2, a2, g2⟩))
        have I4 := I2.below (hfr _ g1)
        have hB4 := hfw _ (hfr _ g1)
        have d3 := RowAt.cell g2.ls (i := 3) rfl
        have d4 := RowAt.cell g2.ls (i := 4) rfl
        have d5 := RowAt.cell g2.ls (i := 5) rfl
        have c4 := RowAt.cell I4.rd (i := 4) rfl
        have c5 := RowAt.cell I4.rd (i := 5) rfl
        have c9 := RowAt.cell I4.rd (i := 9) rfl
        have f0 := RowAt.frozen I4.rd
        obtain ⟨bn, cn, en⟩ := owns_slice g2.on
        obtain ⟨bz, cz, ez⟩ := owns_slice g2.os
        subst en ez
        go_upto_region 9 with (fail)
        obtain ⟨I5, hB5⟩ := I4.lists (owns_base g2.on (by have := I2.size; omega)) (owns_base g2.os (by have := I2.size; omega)) zs.sum
        have hB6 : But w.heap.size (Mine rb vC vT) w _ := (But.of_below hB4).trans (hB5.mono hB4.size (fun _ x => .inl x))
        clear d3 d4 d5 c4 c5 c9 f0 I4 hB5
        generalize (((w4.setCell ⟨rb, 4, none⟩ (.slice bn ns.length cn)).setCell ⟨rb, 5, none⟩ (.slice bz zs.length cz)).setCell ⟨rb, 9, none⟩ (.int .i64 (zs.sum : Nat))) = w5 at I5 hB6 ⊢
        have c0 := RowAt.cell I5.rd (i := 0) rfl
        have c8 := RowAt.cell I5.rd (i := 8) rfl
        have c9 := RowAt.cell I5.rd (i := 9) rfl
        simp only [St.rd] at c0 c8 c9
        have hln := hb.ln
        have KC := fun j => clength_any (s.k : Int) (zs.sum : Int) s.k zs.sum rfl rfl hk1 (by omega) HSum.out (w5.drewN j)
        obtain ⟨Z, eZ⟩ : ∃ Z, zs.sum = Z := ⟨_, rfl⟩
        obtain ⟨LN, eLN⟩ : ∃ LN, s.ln = LN := ⟨_, rfl⟩
        rw [eZ] at c9 KC
        rw [eLN] at c8 hln
        obtain ⟨LC, eLC⟩ : ∃ LC, lenC s.k Z = LC := ⟨_, rfl⟩
        simp only [eLC] at KC
        have HZ : Hid (zs.sum = Z) := eZ
        have hne : ((LN : Int) == (LC : Int)) = false := by
          have : LN ≠ LC := fun e => qn (by rw [eLN, e, ← eLC, ← eZ])
          simp; omega
        have hne2 : ((LN : Int) != (LC : Int)) = true := by
          have : LN ≠ LC := fun e => qn (by rw [eLN, e, ← eLC, ← eZ])
          simp; omega
        clear eZ eLC qn
        go_wp2_with fail
        go_big_quiet (first | (go_at_call 76; exact (KC _).mono (fun _ _ h => ⟨h.1, _, h.2⟩)))
        go_wp2_with (first | (go_at_call 105; refine (at_any _ _ 7 18 (by rfl) (by rfl) _).mono ?_; rintro q w7 ⟨v, rfl, h1, h2⟩))
        go_ret
        have h3 := below_of_drewN h2
        exact ⟨hB6.trans (.of_below (h3.mono hB6.size)), ⟨_, 0, Nat.zero_le _, rfl, h1⟩, ⟨_, (I5.below h3).rd⟩, fun h => by cases h⟩
end
end Go.Proofs.YtkpcmfgeanlcnaaDoor

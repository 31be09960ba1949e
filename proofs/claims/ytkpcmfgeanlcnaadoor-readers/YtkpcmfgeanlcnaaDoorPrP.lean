/-
  How the program reads a shard: the head and the tail (readHead, readTail).
  How the program reads a shard: a frame (readFrame).
-/
import Derived.Test.YtkpcmfgeanlcnaaDoorPrN
import Derived.Test.YtkpcmfgeanlcnaaDoorPrE
import Derived.Test.YtkpcmfgeanlcnaaDoorWrE
namespace Go.Proofs.YtkpcmfgeanlcnaaDoor
open Go.RowKit Go.Deep

/-- What the reading of a piece leaves. -/
def ReadOut (B : Nat) (w : World) (rb : Nat) (s : St) (t : List UInt8) (vN vS vC vT : Value) (R : Except (Nat × Nat) St) (D : Nat) (q : Ending) (w' : World) : Prop :=
  But w.heap.size (Mine rb vC vT) w w' ∧ match R with
  | .error e => (∃ v d, d ≤ D ∧ q = .returned v ∧ Chain w' d v e.1 e.2) ∧ (∃ r', RdAt w' rb r') ∧ (e.1 = 4 → RI B w' rb s t vN vS vC vT)
  | .ok s' => q = .returned .nilIface ∧ ∃ vN' vS' vC', RI B w' rb s' t vN' vS' vC' vT ∧ (vC'.ownBlock = vC.ownBlock ∨ ∃ g, vC'.ownBlock = some g ∧ w.heap.size ≤ g)
theorem RI.below {B rb : Nat} {w w' : World} {s : St} {t : List UInt8} {vN vS vC vT : Value} (I : RI B w rb s t vN vS vC vT) (hb : Below w.heap.size w w') : RI B w' rb s t vN vS vC vT := by
  have key : ∀ {e n : Nat} {v : Value} {xs : List Value}, w.ownsRow B e 1 v n xs → w'.ownsRow B e 1 v n xs := fun h => owns_later h (fun g hg' => hb.block g (h.lt g hg').2)
  exact ⟨RowAt.later I.rd (S := fun _ => False) (.of_below hb) (RowAt.lt I.rd) id, key I.on, key I.os, key I.oc, key I.ot, I.ap, Nat.le_trans I.size hb.size⟩
/-- A fault, and nothing turned. -/
theorem ReadOut.fault {B : Nat} {w w' : World} {rb : Nat} {s : St} {t : List UInt8} {vN vS vC vT v : Value} {e : Nat × Nat} {d D : Nat} (I : RI B w rb s t vN vS vC vT) (hd : d ≤ D) (h : Chain w' d v e.1 e.2) (hb : Below w.heap.size w w') : ReadOut B w rb s t vN vS vC vT (.error e) D (.returned v) w' :=
  ⟨.of_below hb, ⟨v, d, hd, rfl, h⟩, ⟨_, (I.below hb).rd⟩, fun _ => I.below hb⟩
theorem Faulty.read {B : Nat} {w w' : World} {rb : Nat} {s : St} {t : List UInt8} {vN vS vC vT : Value} {q : Ending} {d x y D : Nat} (h : Faulty w d x y q w') (I : RI B w rb s t vN vS vC vT) (hd : d ≤ D) : ReadOut B w rb s t vN vS vC vT (.error (x, y)) D q w' := by
  obtain ⟨v, rfl, h1, h2⟩ := h
  exact ReadOut.fault I hd h1 h2
theorem below_of_drewN {w w' : World} {j : Nat} (h : Below (w.drewN j).heap.size (w.drewN j) w') : Below w.heap.size w w' := ⟨h.os, h.tape, h.output, h.size, h.block⟩

/-- The Reading's own cells are turned, and nothing else. -/
theorem RI.turn {B rb : Nat} {w w' : World} {s s' : St} {t : List UInt8} {vN vS vC vT : Value} (I : RI B w rb s t vN vS vC vT) (hB : But w.heap.size (· = rb) w w') (hR : RdAt w' rb (s'.rd vN vS vC vT .nilIface)) (h1 : s'.ns = s.ns) (h2 : s'.zs = s.zs) (h3 : s'.col = s.col) : RI B w' rb s' t vN vS vC vT := by
  have key : ∀ {e n : Nat} {v : Value} {xs : List Value}, w.ownsRow B e 1 v n xs → e ≠ 78 → w'.ownsRow B e 1 v n xs := fun h he => owns_later h (fun g hg' => hB.block g (h.lt g hg').2 (fun e => owns_rd h I.rd he (by rw [hg', e])))
  exact ⟨hR, by rw [h1]; exact key I.on (by decide), by rw [h2]; exact key I.os (by decide), by rw [h3]; exact key I.oc (by decide), key I.ot (by decide), I.ap, Nat.le_trans I.size hB.size⟩
theorem numsP_part {t : List UInt8} : numsP (part t 0 24) = numsP t := by
  have h : ∀ a n, a + n ≤ 24 → le (part t 0 24) a n = le t a n := fun a n hn => by rw [le_part' n 0 a hn, Nat.zero_add]
  unfold numsP
  rw [h 6 1 (by omega), h 7 1 (by omega), h 8 1 (by omega), h 9 1 (by omega), h 10 4 (by omega), h 14 4 (by omega), h 18 4 (by omega), h 22 2 (by omega)]
section
variable (B rb : Nat) (s : St) (t : List UInt8) (vN vS vC vT : Value) (hb : Bd s) (ht : t.length ≤ s.sz) (w : World) (I : RI B w rb s t vN vS vC vT) (hTab : Tab w)
set_option maxHeartbeats 4000000 in
set_option maxRecDepth 100000 in
include hb ht I in
theorem readTail_any (hnx : s.nx = 3) : Calls Tryd.prog 138 #[.pointer (some ⟨rb, 0, none⟩)] w fun q w' => ReadOut B w rb s t vN vS vC vT (tailP s t) 0 q w' := by
  obtain ⟨bc, cc, eC, hcc⟩ := I.oc.slice
  obtain ⟨bt, ct, eT, hct⟩ := I.ot.slice
  have hz := St.sz_le hb
  have KB : Calls Tryd.prog 148 #[.pointer (some ⟨rb, 0, none⟩), .string ⟨#[68, 79, 78, 69]⟩] w fun q w' => Begins w t magic2 s.pl q w' :=
    begins_any rb (s.rd vN vS vC vT .nilIface) t magic2 (by decide) (by omega) (by have := hb.pl; exact Nat.le_trans this (by omega)) w I.rd I.ot.lies
  have KY := fun j => whole_yes rb (s.rd vN vS vC vT .nilIface) bc s.col.length cc eC (by have := hb.m; exact Nat.le_trans this (by omega)) (by have := hb.c; exact Nat.le_trans this (by omega)) (by have := hb.ln; exact Nat.le_trans this (by omega)) hb.col (by rw [show (s.rd vN vS vC vT .nilIface).nx = s.nx from rfl]; omega) bt t.length ct eT (w.drewN j) I.rd
  have KN := fun j => whole_no rb (s.rd vN vS vC vT .nilIface) bc s.col.length cc eC (by have := hb.m; exact Nat.le_trans this (by omega)) (by have := hb.c; exact Nat.le_trans this (by omega)) (by have := hb.ln; exact Nat.le_trans this (by omega)) hb.col (by rw [show (s.rd vN vS vC vT .nilIface).nx = s.nx from rfl]; omega) bt t.length ct eT (by omega) (by have := hb.pl; exact Nat.le_trans this (by omega)) (w.drewN j) I.rd
  have hsz : sizeR s.nx s.c s.m s.ln s.col.length = s.sz := rfl
  simp only [St.rd, hsz] at KY KN
  unfold tailP
  cases hbe : begE t magic2 with
  | some i =>
    have HB : Hid (begE t magic2 = some i) := hbe
    clear KY KN hbe
    unfold Begins at KB
    rw [HB.out] at KB
    simp only at KB
    go_enter Tryd.func138, Tryd.ntmps138
    go_wp2_with (first | (go_at_call 148; refine KB.mono ?_; rintro q w2 ⟨v, rfl, g1, g2⟩; obtain ⟨ty, x, rfl⟩ := g1.iface))
    go_ret
    exact ReadOut.fault I (Nat.le_refl _) g1 g2
  | none =>
    unfold Begins at KB
    rw [hbe] at KB
    simp only at KB ⊢
    by_cases q : t.length < s.sz
    · rw [if_pos q]
      have K := fun j => KN j q
      clear KY KN hbe
      go_enter Tryd.func138, Tryd.ntmps138
      go_wp2_with (first | (go_at_call 148; refine KB.mono ?_; rintro q w2 ⟨rfl, j, hw2⟩; obtain rfl := hw2.symm) | (go_at_call 152; refine (K _).mono ?_; rintro q w2 ⟨v, rfl, g1, g2⟩))
      go_ret
      exact ReadOut.fault I (Nat.le_refl _) g1 (below_of_drewN g2)
    · rw [if_neg q]
      have K := fun j => KY j (by omega)
      clear KY KN hbe
      go_enter Tryd.func138, Tryd.ntmps138
      go_wp2_with (first | (go_at_call 148; refine KB.mono ?_; rintro q w2 ⟨rfl, j, hw2⟩; obtain rfl := hw2.symm) | (go_at_call 152; refine (K _).mono ?_; rintro q w2 ⟨rfl, j2, hw2⟩; obtain rfl := hw2.symm))
      go_ret
      refine ⟨((But.refl _ _ _).drewN _), rfl, vN, vS, vC, I.drewN _, .inl rfl⟩
set_option maxHeartbeats 4000000 in
set_option maxRecDepth 100000 in
include hb ht I hTab in
theorem readHead_any (hnx : s.nx = 0) : Calls Tryd.prog 135 #[.pointer (some ⟨rb, 0, none⟩)] w fun q w' => ReadOut B w rb s t vN vS vC vT (headP s t) 0 q w' := by
  obtain ⟨bc, cc, eC, hcc⟩ := I.oc.slice
  obtain ⟨bt, ct, eT, hct⟩ := I.ot.slice
  have hz := St.sz_le hb
  have hz0 := sz0 hnx
  have KB : Calls Tryd.prog 148 #[.pointer (some ⟨rb, 0, none⟩), .string ⟨#[67, 65, 73, 82, 78, 49]⟩] w fun q w' => Begins w t magic1 s.pl q w' :=
    begins_any rb (s.rd vN vS vC vT .nilIface) t magic1 (by decide) (by omega) (by have := hb.pl; exact Nat.le_trans this (by omega)) w I.rd I.ot.lies
  have KS := fun j => rsealed_any rb (s.rd vN vS vC vT .nilIface) bc s.col.length cc eC (by have := hb.m; exact Nat.le_trans this (by omega)) (by have := hb.c; exact Nat.le_trans this (by omega)) (by have := hb.ln; exact Nat.le_trans this (by omega)) hb.col (by rw [show (s.rd vN vS vC vT .nilIface).nx = s.nx from rfl]; omega) t bt ct eT (by omega) (by have := hb.pl; exact Nat.le_trans this (by omega)) (w.drewN j) I.rd I.ot.lies (hTab.heap rfl)
  have hsz : sizeR s.nx s.c s.m s.ln s.col.length = s.sz := rfl
  simp only [St.rd, hsz] at KS
  have hSP : sealT s.sz s.pl t = sealP s t := rfl
  simp only [hSP] at KS
  unfold headP
  cases hbe : begE t magic1 with
  | some i =>
    have HB : Hid (begE t magic1 = some i) := hbe
    clear KS hbe
    unfold Begins at KB
    rw [HB.out] at KB
    simp only at KB
    go_enter Tryd.func135, Tryd.ntmps135
    go_wp2_with (first | (go_at_call 148; refine KB.mono ?_; rintro q w2 ⟨v, rfl, g1, g2⟩; obtain ⟨ty, x, rfl⟩ := g1.iface))
    go_ret
    exact ReadOut.fault I (Nat.le_refl _) g1 g2
  | none =>
    unfold Begins at KB
    rw [hbe] at KB
    simp only at KB ⊢
    cases hse : sealP s t with
    | some e =>
      unfold SealPost at KS
      rw [hse] at KS
      simp only at KS ⊢
      clear hbe hse
      go_enter Tryd.func135, Tryd.ntmps135
      go_wp2_with (first | (go_at_call 148; refine KB.mono ?_; rintro q w2 ⟨rfl, j, hw2⟩; obtain rfl := hw2.symm) | (go_at_call 149; refine (KS _).mono ?_; rintro q w2 ⟨v, rfl, g1, g2⟩; obtain ⟨ty, x, rfl⟩ := g1.iface))
      go_ret
      exact ReadOut.fault I (Nat.le_refl _) g1 (below_of_drewN g2)
    | none =>
      unfold SealPost at KS
      rw [hse] at KS
      simp only at KS ⊢
      have hl32 : t.length = 32 := by
        unfold sealP at hse
        split at hse
        · cases hse
        · omega
      have hby : ∃ b off, bt = some ⟨b, off, none⟩ ∧ Byt w b off t ∧ b ≠ rb := by
        have hot := I.ot
        have hne := owns_rd I.ot I.rd (by decide)
        unfold OwnB at hot
        obtain ⟨g, c, e, _, _, _, _, hB⟩ := owns_byt hot (by omega)
        rw [eT] at e hne
        cases e
        exact ⟨g, 0, rfl, hB, fun e => hne (by rw [e]; rfl)⟩
      obtain ⟨b, off, rfl, hB, hbr⟩ := hby
      have hu : (part t 0 24).length = 24 := part_length (by omega)
      have KR := fun j => readNumbers_any rb (s.rd vN vS vC vT .nilIface) (part t 0 24) b off ct hu (by omega) hbr (w.drewN j) I.rd (by have := hB.part (a := 0) (n := 24) (by omega); exact this)
      unfold NumsPost at KR
      rw [numsP_part] at KR
      have hle : ∀ a n, a + n ≤ 24 → le (part t 0 24) a n = le t a n := fun a n hn => by rw [le_part' n 0 a hn, Nat.zero_add]
      have hrd : (s.rd vN vS vC vT .nilIface).nums (part t 0 24) = ({ s with k := le t 6 1, n := le t 7 1, i := le t 8 1, c := le t 10 4, m := le t 14 4, ln := le t 18 4 } : St).rd vN vS vC vT .nilIface := by
        unfold Rd.nums St.rd
        simp only
        rw [hle 6 1 (by omega), hle 7 1 (by omega), hle 8 1 (by omega), hle 10 4 (by omega), hle 14 4 (by omega), hle 18 4 (by omega)]
      rw [hrd] at KR
      rw [hl32] at KS
      simp only [show 32 - 8 = 24 from rfl] at KS
      have hBM : ∀ {j : Nat} {w' : World}, But (w.drewN j).heap.size (· = rb) (w.drewN j) w' → But w.heap.size (· = rb) w w' := fun h => ((But.refl w.heap.size _ w).drewN _).trans h
      clear hbe hse hle hrd
      cases hnu : numsE (numsP t) with
      | some p =>
        rw [hnu] at KR
        simp only at KR ⊢
        clear hnu
        go_enter Tryd.func135, Tryd.ntmps135
        go_wp2_with (first | (go_at_call 148; refine KB.mono ?_; rintro q w2 ⟨rfl, j, hw2⟩; obtain rfl := hw2.symm) | (go_at_call 149; refine (KS _).mono ?_; rintro q w2 ⟨rfl, j2, hw2⟩; obtain rfl := hw2.symm) | (go_at_call 150; refine (KR _).mono ?_; rintro q w3 ⟨g1, g2, v, rfl, g3⟩))
        go_ret
        exact ⟨(hBM g1).mono (Nat.le_refl _) (fun _ x => .inl x), ⟨v, 0, Nat.le_refl _, rfl, g3⟩, ⟨_, g2⟩, fun h => by cases h⟩
      | none =>
        rw [hnu] at KR
        simp only at KR ⊢
        clear hnu
        go_enter Tryd.func135, Tryd.ntmps135
        go_wp2_with (first | (go_at_call 148; refine KB.mono ?_; rintro q w2 ⟨rfl, j, hw2⟩; obtain rfl := hw2.symm) | (go_at_call 149; refine (KS _).mono ?_; rintro q w2 ⟨rfl, j2, hw2⟩; obtain rfl := hw2.symm) | (go_at_call 150; refine (KR _).mono ?_; rintro q w3 ⟨g1, g2, rfl⟩))
        go_ret
        exact ⟨(hBM g1).mono (Nat.le_refl _) (fun _ x => .inl x), rfl, vN, vS, vC, I.turn (hBM g1) g2 rfl rfl rfl, .inl rfl⟩
end
end Go.Proofs.YtkpcmfgeanlcnaaDoor

namespace Go.Proofs.YtkpcmfgeanlcnaaDoor
open Go.RowKit Go.Deep

theorem firstI_pad (u : List UInt8) (F : Int) : firstI u F = match padP u F with | some m => (m : Int) | none => -1 := rfl
theorem usedI_small (k i t : Nat) (hk : 1 ≤ k) (ht : t ≤ 65536) : 0 ≤ usedI k i t ∧ usedI k i t ≤ 65536 := by
  have h1 := lenC_le hk t
  unfold usedI
  split <;> omega
/-- The column grows. -/
theorem RI.column {B rb : Nat} {w w1 : World} {s : St} {t x : List UInt8} {vN vS vC vT v1 : Value} (I : RI B w rb s t vN vS vC vT) (h1 : OwnB B w1 v1 (s.col ++ x)) (hg : w.grownBy w1 vC.ownBlock) (hk : v1.ownBlock = vC.ownBlock ∨ v1.ownBlock = some w.heap.size) :
    RI B (w1.setCell ⟨rb, 6, none⟩ v1) rb { s with col := s.col ++ x } t vN vS v1 vT ∧ But w.heap.size (Mine rb vC vT) w (w1.setCell ⟨rb, 6, none⟩ v1) ∧ w1.cell? ⟨rb, 6, none⟩ = some vC ∧ w1.frozen? ⟨rb, 6, none⟩ = false := by
  have hrlt := RowAt.lt I.rd
  have hT := owns_rd I.oc I.rd (by decide)
  have hR1 : RdAt w1 rb (s.rd vN vS vC vT .nilIface) := by
    unfold RdAt RowAt at *
    rw [hg.block rb hrlt (fun e => hT e.symm)]
    exact I.rd
  have key : ∀ {e n : Nat} {v : Value} {xs : List Value}, w.ownsRow B e 1 v n xs → Apart2 v vC → w1.ownsRow B e 1 v n xs := fun h ha => owns_later h (fun g hg' => hg.block g (h.lt g hg').2 (fun e => ha g hg' e.symm))
  have hN1 := key I.on (owns_apart I.on I.oc (by decide))
  have hS1 := key I.os (owns_apart I.os I.oc (by decide))
  have hT1 := key I.ot (fun g h1 h2 => I.ap g h2 h1)
  have hR2 : RdAt (w1.setCell ⟨rb, 6, none⟩ v1) rb (({ s with col := s.col ++ x } : St).rd vN vS v1 vT .nilIface) := RowAt.set hR1 6 v1
  refine ⟨⟨hR2, owns_set hN1 (owns_rd hN1 hR1 (by decide)), owns_set hS1 (owns_rd hS1 hR1 (by decide)), owns_set h1 (owns_rd h1 hR1 (by decide)), owns_set hT1 (owns_rd hT1 hR1 (by decide)), ?_, ?_⟩, ?_, RowAt.cell hR1 (i := 6) rfl, RowAt.frozen hR1 6⟩
  · intro g hg1 hg2
    rcases hk with e | e
    · exact I.ap g (e ▸ hg1) hg2
    · have h2 := (World.ownsRow.lt I.ot g hg2).2
      rw [e] at hg1
      cases hg1
      omega
  · have := I.size; have := hg.size; simp; omega
  · exact But.setCell (But.mono (But.of_grown hg) (Nat.le_refl _) (fun k hk => .inr (.inl hk))) (p := ⟨rb, 6, none⟩) (.inr (.inl rfl)) v1

section
variable (B rb : Nat) (s : St) (t : List UInt8) (vN vS vC vT : Value) (hb : Bd s) (ht : t.length ≤ s.sz) (w : World) (I : RI B w rb s t vN vS vC vT) (hTab : Tab w)
set_option maxHeartbeats 4000000 in
set_option maxRecDepth 100000 in
include hb ht I hTab in
theorem readFrame_any (hnx : s.nx = 2) (hk1 : 1 ≤ s.k) (hk2 : s.k ≤ 128) (hi : s.i ≤ 128) (htt : s.tt ≤ 65536) : Calls Tryd.prog 137 #[.pointer (some ⟨rb, 0, none⟩)] w fun q w' => ReadOut B w rb s t vN vS vC vT (frameP s t) 0 q w' := by
  obtain ⟨bc, cc, eC, hcc⟩ := I.oc.slice
  obtain ⟨bt, ct, eT, hct⟩ := I.ot.slice
  have hz := St.sz_le hb
  have KS := rsealed_any rb (s.rd vN vS vC vT .nilIface) bc s.col.length cc eC (by have := hb.m; exact Nat.le_trans this (by omega)) (by have := hb.c; exact Nat.le_trans this (by omega)) (by have := hb.ln; exact Nat.le_trans this (by omega)) hb.col (by rw [show (s.rd vN vS vC vT .nilIface).nx = s.nx from rfl]; omega) t bt ct eT (by omega) (by have := hb.pl; exact Nat.le_trans this (by omega)) w I.rd I.ot.lies hTab
  have hsz : sizeR s.nx s.c s.m s.ln s.col.length = s.sz := rfl
  simp only [St.rd, hsz] at KS
  have hSP : sealT s.sz s.pl t = sealP s t := rfl
  simp only [hSP] at KS
  unfold frameP
  cases hse : sealP s t with
  | some e =>
    unfold SealPost at KS
    rw [hse] at KS
    simp only at KS ⊢
    clear hse
    go_enter Tryd.func137, Tryd.ntmps137
    go_wp2_with (first | (go_at_call 149; refine KS.mono ?_; rintro q w2 ⟨v, rfl, g1, g2⟩; obtain ⟨ty, x, rfl⟩ := g1.iface))
    go_ret
    exact ReadOut.fault I (Nat.le_refl _) g1 g2
  | none =>
    unfold SealPost at KS
    rw [hse] at KS
    simp only at KS ⊢
    have hz2 := sz2 hnx
    have hl8 : t.length = s.sz := by
      unfold sealP at hse
      split at hse
      · cases hse
      · omega
    obtain ⟨b, off, ebt, hB⟩ : ∃ b off, bt = some ⟨b, off, none⟩ ∧ Byt w b off t := by
      have hot := I.ot
      unfold OwnB at hot
      obtain ⟨g, c, e, _, _, _, _, hB⟩ := owns_byt hot (by omega)
      rw [eT] at e
      cases e
      exact ⟨g, 0, rfl, hB⟩
    subst ebt
    obtain ⟨q, eq⟩ : ∃ q, t.length - 8 = q := ⟨_, rfl⟩
    have hq : q + 8 = t.length := by omega
    have hq2 : s.col.length + q ≤ s.ln := by have := hb.col; omega
    have hu : (part t 0 q).length = q := part_length (by omega)
    have hBu : Byt w b off (part t 0 q) := by have := hB.part (a := 0) (n := q) (by omega); exact this
    have hLu : Lies w (.slice (some ⟨b, off, none⟩) q ct) (u8V (part t 0 q)) := by
      refine ⟨_, ct, by rw [u8V_length, hu], by rw [u8V_length, hu]; omega, fun j u hj => ⟨b, off, rfl, ?_⟩⟩
      obtain ⟨h1, rfl⟩ := u8V_at hj
      exact hBu j h1
    rw [eq] at KS ⊢
    have hln := hb.ln
    have hpl := hb.pl
    have hF := usedI_small s.k s.i s.tt hk1 htt
    have KU := fun j => used_any (s.k : Int) (s.i : Int) (s.tt : Int) s.k s.i s.tt rfl rfl rfl hk1 (by omega) (by omega) htt (w.drewN j)
    have KF := fun j => firstI_any (usedI s.k s.i s.tt - (s.col.length : Int)) (by omega) _ (part t 0 q) (by omega) (w.drewN j) (hLu.drewN j)
    rw [firstI_pad] at KF
    have c0 := RowAt.cell I.rd (i := 0) rfl
    have c2 := RowAt.cell I.rd (i := 2) rfl
    have c6 := RowAt.cell I.rd (i := 6) rfl
    have c9 := RowAt.cell I.rd (i := 9) rfl
    have c11 := RowAt.cell I.rd (i := 11) rfl
    have f6 := RowAt.frozen I.rd 6
    simp only [St.rd] at c0 c2 c6 c9 c11
    subst eC
    obtain ⟨us, eus⟩ : ∃ us, usedI s.k s.i s.tt = us := ⟨_, rfl⟩
    rw [eus] at KU KF hF ⊢
    have hwr : IntKind.i64.wrap (us - (s.col.length : Int)) = us - (s.col.length : Int) := IntWalk.i64_in _ (by omega)
    clear hse hl8 eq hsz hSP eus
    cases hp : padP (part t 0 q) (us - (s.col.length : Int)) with
    | some m =>
      rw [hp] at KF
      simp only at KF ⊢
      have hm : m < q := by have := (padP_some_iff.1 hp).1; omega
      obtain ⟨pl, epl⟩ : ∃ pl, s.pl = pl := ⟨_, rfl⟩
      rw [epl] at c11 hpl ⊢
      have hwr2 : IntKind.i64.wrap ((pl : Int) + (m : Int)) = (pl : Int) + (m : Int) := IntWalk.i64_in _ (by omega)
      clear hp
      go_enter Tryd.func137, Tryd.ntmps137
      go_wp2_with (first | (go_at_call 149; refine KS.mono ?_; rintro q w2 ⟨rfl, j, hw2⟩; obtain rfl := hw2.symm))
      go_big_quiet (first | (go_at_call 78; exact (KU _).mono (fun _ _ h => ⟨h.1, _, h.2⟩)))
      go_wp2_with (first | (go_at_call 77; refine (KF _).mono ?_; rintro q w2 ⟨rfl, hw2⟩; obtain rfl := hw2.symm) | (go_at_call 105; refine (at_any _ _ 8 (pl + m) (by rfl) (by simp) _).mono ?_; rintro q w2 ⟨v, rfl, g1, g2⟩))
      go_ret
      exact ReadOut.fault I (Nat.le_refl _) g1 (below_of_drewN g2)
    | none =>
      rw [hp] at KF
      simp only at KF ⊢
      clear hp
      have hot := I.oc
      unfold OwnB at hot
      have hBs := I.size
      have hcl := hb.col
      obtain ⟨i0, hi0, hz0, hz1, hz3⟩ := info_parts infoB8
      have hnews : ∀ j u, (u8V (part t 0 q))[j]? = some u → w.cell? ((⟨b, off, none⟩ : Addr).add j) = some u := Byt.news hBu
      go_enter Tryd.func137, Tryd.ntmps137
      go_wp2_with (first | (go_at_call 149; refine KS.mono ?_; rintro q w2 ⟨rfl, j, hw2⟩; obtain rfl := hw2.symm))
      go_big_quiet (first | (go_at_call 78; exact (KU _).mono (fun _ _ h => ⟨h.1, _, h.2⟩)))
      go_wp2_with (first | (go_at_call 77; refine (KF _).mono ?_; rintro q w2 ⟨rfl, hw2⟩; obtain rfl := hw2.symm) | (at_builtin; refine wpList_append_own_at _ rfl _ _ 24 rfl B 5 i0 (.int .u8 0) 1 1 Tryd.underlying24 hi0 hz0 hz1 hz3 rfl (by decide) _ _ _ rfl (by exact hot) ⟨b, off, none⟩ q ct (u8V (part t 0 q)) rfl (by rw [u8V_length, hu]; omega) (by exact hnews) (u8V_one _) (by unfold maxLen; omega) (by omega) (by exact hBs) ?_; intro v2 w2 hown2 hgrow2 _ hblk2; have ow := own_app hown2; obtain ⟨b2, c3, rfl, hc3⟩ := ow.slice; obtain ⟨J, hJ, x6, y6⟩ := RI.column (I.drewN _) ow hgrow2 hblk2))
      go_ret
      have e2 : (s.col ++ part t 0 q).length = s.col.length + q := by rw [List.length_append, hu]
      rw [e2] at J hJ hblk2
      refine ⟨((But.refl w.heap.size _ w).drewN _).trans hJ, rfl, vN, vS, _, J, ?_⟩
      rcases hblk2 with e | e
      · exact .inl e
      · exact .inr ⟨_, e, Nat.le_refl _⟩
end
end Go.Proofs.YtkpcmfgeanlcnaaDoor

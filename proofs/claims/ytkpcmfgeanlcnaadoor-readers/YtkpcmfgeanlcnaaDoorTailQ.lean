/-
  How the program reads a shard: a piece and its sum (sealed).
  A drawn region that reads, and whose last operations wait for all others: its head is walked once, by the cheap step.
-/
import Derived.Test.YtkpcmfgeanlcnaaDoorPrC
namespace Go.Proofs.YtkpcmfgeanlcnaaDoor
open Go.RowKit Go.Deep

/-- What sealed tells of a piece t that stands at a place; z: how many bytes it has to have. -/
def sealT (z pl : Nat) (t : List UInt8) : Option (Nat × Nat) :=
  if t.length < z then some (4, pl + t.length)
  else if sumOf (part t 0 (t.length - 8)) = le (part t (t.length - 8) 8) 0 8 then none else some (6, pl + (t.length - 8))
def SealPost (w : World) (x : Option (Nat × Nat)) (bt : Option Addr) (tl ct : Nat) (q : Ending) (w' : World) : Prop :=
  match x with
  | some e => ∃ v, q = .returned (.tuple #[.slice none 0 0, v]) ∧ Chain w' 0 v e.1 e.2 ∧ Below w.heap.size w w'
  | none => q = .returned (.tuple #[.slice bt (tl - 8) ct, .nilIface]) ∧ ∃ j, w' = w.drewN j

section
variable (rb : Nat) (r : Rd) (bc : Option Addr) (cl cc : Nat) (hC : r.vC = .slice bc cl cc) (hm : r.m ≤ 1000000) (hc : r.c ≤ 1000000) (hl : r.ln ≤ 1000000) (hcl : cl ≤ r.ln) (hnx : r.nx ≤ 2) (t : List UInt8) (bt : Option Addr) (ct : Nat) (hT : r.vT = .slice bt t.length ct) (htl : t.length ≤ 1000000000) (hpl : r.pl ≤ 1000000000000) (w : World) (h : RdAt w rb r) (hL : Lies w r.vT (u8V t)) (hTab : Tab w)
set_option maxHeartbeats 4000000 in
set_option maxRecDepth 100000 in
include hC hm hc hl hcl hnx hT htl hpl h hL hTab in
theorem rsealed_any :
    Calls Tryd.prog 149 #[.pointer (some ⟨rb, 0, none⟩)] w fun q w' => SealPost w (sealT (sizeR r.nx r.c r.m r.ln cl) r.pl t) bt t.length ct q w' := by
  have hz8 : 8 ≤ sizeR r.nx r.c r.m r.ln cl := by
    unfold sizeR
    split
    · omega
    · split
      · omega
      · split
        · omega
        · omega
  have KY := whole_yes rb r bc cl cc hC hm hc hl hcl (by omega) bt t.length ct hT w h
  have KN := whole_no rb r bc cl cc hC hm hc hl hcl (by omega) bt t.length ct hT htl hpl w h
  obtain ⟨z, ez⟩ : ∃ z, sizeR r.nx r.c r.m r.ln cl = z := ⟨_, rfl⟩
  simp only [ez] at KY KN hz8 ⊢
  have c12 : w.cell? ⟨rb, 12, none⟩ = some (.slice bt t.length ct) := by rw [← hT]; exact RowAt.cell h rfl
  have c11 : w.cell? ⟨rb, 11, none⟩ = some (.int .i64 (r.pl : Int)) := RowAt.cell h rfl
  obtain ⟨pl, epl⟩ : ∃ pl, r.pl = pl := ⟨_, rfl⟩
  rw [epl] at c11 hpl KN ⊢
  rcases Nat.lt_or_ge t.length z with q | q
  · have HP : Hid (sealT z pl t = some (4, pl + t.length)) := if_pos q
    have K := KN q
    clear KY KN h hC hT hL
    go_enter Tryd.func149, Tryd.ntmps149
    go_wp2_with (first | (go_at_call 152; refine K.mono ?_; rintro q w2 ⟨v, rfl, g1, g2⟩; obtain ⟨ty, x, rfl⟩ := g1.iface))
    go_ret2
    unfold SealPost
    rw [HP.out]
    exact ⟨_, rfl, g1, g2⟩
  · have K := KY q
    obtain ⟨b, off, eb, hby⟩ : ∃ b off, bt = some ⟨b, off, none⟩ ∧ Byt w b off t := by
      obtain ⟨ba, cap, e1, e2, e3⟩ := hL
      rw [hT, u8V_length] at e1
      cases e1
      obtain ⟨b, off, e4, _⟩ := e3 0 _ (u8V_get (by omega))
      refine ⟨b, off, e4, fun i hi => ?_⟩
      obtain ⟨b', off', e5, e6⟩ := e3 i _ (u8V_get hi)
      rw [e4] at e5
      cases e5
      exact e6
    subst eb
    obtain ⟨en, een⟩ : ∃ en, t.length = en + 8 := ⟨t.length - 8, by omega⟩
    have hcap : t.length ≤ ct := by
      obtain ⟨ba, cap, e1, e2, e3⟩ := hL
      rw [hT, u8V_length] at e1
      cases e1
      rw [u8V_length] at e2
      exact e2
    have hB1 : Byt w b off (part t 0 en) := by have := hby.part (a := 0) (n := en) (by omega); exact this
    have hB2 : Byt w b (off + en) (part t en 8) := hby.part (by omega)
    have e1 : (part t 0 en).length = en := part_length (by omega)
    have e2 : (part t en 8).length = 8 := part_length (by omega)
    have K1 := fun n cap => sumOf_any b off cap (part t 0 en) (by omega) (w.drewN n) hB1 (hTab.heap rfl)
    have K2 := fun n cap => readNumber_any b (off + en) 8 cap (part t en 8) e2 (by omega) (w.drewN n) hB2
    rw [e1] at K1
    have hS : sealT z pl t = if sumOf (part t 0 en) = le (part t en 8) 0 8 then none else some (6, pl + en) := by
      unfold sealT
      rw [if_neg (by omega), een, Nat.add_sub_cancel]
    have hs1 := sumOf_lt (part t 0 en)
    have hs2 : le (part t en 8) 0 8 < 2 ^ 64 := by have := le_lt (part t en 8) 8 0; simpa using this
    obtain ⟨s1, es1⟩ : ∃ s1, sumOf (part t 0 en) = s1 := ⟨_, rfl⟩
    obtain ⟨s2, es2⟩ : ∃ s2, le (part t en 8) 0 8 = s2 := ⟨_, rfl⟩
    rw [es1, es2] at hS
    simp only [es1] at K1 hs1
    simp only [es2] at K2 hs2
    have HS : Hid (sealT z pl t = if s1 = s2 then none else some (6, pl + en)) := hS
    rw [een] at c12 hcap htl ⊢
    clear KY KN h hC hT hL hS es1 es2 e1 e2 hB1 hB2 hby een
    by_cases qs : s1 = s2
    · have HP : Hid (sealT z pl t = none) := by rw [HS.out, if_pos qs]; exact rfl
      subst qs
      clear HS
      go_enter Tryd.func149, Tryd.ntmps149
      go_wp2_with (first | (go_at_call 152; refine K.mono ?_; rintro q w2 ⟨rfl, j, hw2⟩; obtain rfl := hw2.symm))
      go_big_quiet (first | (go_at_call 17; exact (K1 _ _).mono (fun _ _ h => ⟨h.1, _, h.2⟩)) | (go_at_call 154; exact (K2 _ _).mono (fun _ _ h => ⟨h.1, _, h.2⟩)))
      go_wp2
      go_ret2
      unfold SealPost
      rw [HP.out]
      exact ⟨rfl, _, rfl⟩
    · have HP : Hid (sealT z pl t = some (6, pl + en)) := by rw [HS.out, if_neg qs]; exact rfl
      have q' : ((s1 : Int) == (s2 : Int)) = false := by simp; omega
      have q2 : ((s1 : Int) != (s2 : Int)) = true := by simp; omega
      have hwr : IntKind.i64.wrap ((pl : Int) + (en : Int)) = (pl : Int) + (en : Int) := IntWalk.i64_in _ (by omega)
      clear HS
      go_enter Tryd.func149, Tryd.ntmps149
      go_wp2_with (first | (go_at_call 152; refine K.mono ?_; rintro q w2 ⟨rfl, j, hw2⟩; obtain rfl := hw2.symm))
      go_big_quiet (first | (go_at_call 17; exact (K1 _ _).mono (fun _ _ h => ⟨h.1, _, h.2⟩)) | (go_at_call 154; exact (K2 _ _).mono (fun _ _ h => ⟨h.1, _, h.2⟩)))
      go_wp2_with (first | (go_at_call 105; refine (at_any _ _ 6 (pl + en) (by rfl) (by simp) _).mono ?_; rintro q w2 ⟨v, rfl, g1, g2⟩))
      go_ret2
      unfold SealPost
      rw [HP.out]
      exact ⟨_, rfl, g1, ⟨g2.os, g2.tape, g2.output, g2.size, g2.block⟩⟩
end
end Go.Proofs.YtkpcmfgeanlcnaaDoor

namespace Go.Proofs.YtkpcmfgeanlcnaaDoor
open Go.RowKit Go.Deep

theorem still_of_quiet_op {P : Program} {o : Oper} {a : Act} {w : World} {K K' : Act → Prop} (hk : ∀ a, K a → K' a) (h : o.quiet P a (fun w' => w' = w) K) : o.still P a w K' := by
  obtain ⟨v, h1, h2⟩ := h
  have h3 := h1 w rfl
  unfold Oper.quietAt at h3
  unfold Oper.still
  generalize (execOp a.eval o).run P w = R at h3
  unfold Oper.quietUpon at h3
  unfold Oper.stillUpon
  split at h3
  · exact ⟨h3.1, by rw [h3.2]; exact hk _ h2⟩
  · exact ⟨h3.1, by rw [← h3.2]; exact hk _ h2⟩
  · exact ⟨h3.1, v, h3.2, hk _ h2⟩
  · exact h3.elim
theorem still_of_quiet {P : Program} {ops : Array Oper} {w : World} {Q : Act → Prop} : ∀ (l : List Oper) (a : Act), wpQuiet P ops (fun w' => w' = w) Q l a → wpStill P ops w Q l a
  | [], _, h => h
  | o :: rest, a, h => by
    unfold wpQuiet at h
    unfold wpStill
    split
    · rename_i hw
      rw [if_pos hw] at h
      exact still_of_quiet_op (fun a' => still_of_quiet rest a') h
    · rename_i hw
      rw [if_neg hw] at h
      exact still_of_quiet rest _ h
theorem wp_region_quiet_tail {P : Program} {id : Nat} {Q : Exit → Act → World → Prop} {a : Act} {w : World} {l : List Oper} (n : Nat) (hm : P.follows .mixedOrders = true) (hB : Region.lexTailB .any l.toArray n = true)
    (h : wpQuiet P l.toArray (fun w' => w' = w.drew) (fun a' => wpList P l.toArray Q (l.drop n) a' w.drew) (l.take n) a) : (Code.region id l.toArray true).wp P Q a w :=
  wp_region_tail n hm hB (still_of_quiet _ _ h)
end Go.Proofs.YtkpcmfgeanlcnaaDoor

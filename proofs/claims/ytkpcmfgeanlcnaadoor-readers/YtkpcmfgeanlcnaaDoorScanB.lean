/-
  How the document reads a shard: the signs that must come (fixed).
-/
import Derived.Test.YtkpcmfgeanlcnaaDoorScanA
import Derived.Deep.QuietTactic
import Derived.BigQuiet
namespace Go.Proofs.YtkpcmfgeanlcnaaDoor
open Go.RowKit Go.Deep

/-- What is found wrong first, behind what was found before. -/
def eOf (r : Option (Nat × Nat)) (e : Nat) : Nat := match r with | none => e | some x => first e x.1
def pOf (r : Option (Nat × Nat)) (e p : Nat) : Nat := match r with | none => p | some x => firstP e p x.2
theorem eOf_none (e : Nat) : eOf none e = e := rfl
theorem pOf_none (e p : Nat) : pOf none e p = p := rfl
theorem eOf_err {e : Nat} (h : e ≠ 0) (r : Option (Nat × Nat)) : eOf r e = e := by
  cases r with
  | none => rfl
  | some x => simp [eOf, first, h]
theorem pOf_err {e : Nat} (h : e ≠ 0) (p : Nat) (r : Option (Nat × Nat)) : pOf r e p = p := by
  cases r with
  | none => rfl
  | some x => simp [pOf, firstP, h]

/-- These bytes come from a place on, or what is wrong and where. -/
def fixE (l : List UInt8) (a : Nat) : List UInt8 → Option (Nat × Nat)
  | [] => none
  | c :: ws => if l.length ≤ a then some (4, l.length) else if bAt l a = c.toNat then fixE l (a + 1) ws else some (5, a)

theorem fixE_step {l ws : List UInt8} {a i : Nat} {r : Option (Nat × Nat)} (hi : i < ws.length) (H : fixE l (a + i) (ws.drop i) = r) :
    (if l.length ≤ a + i then some (4, l.length) else if bAt l (a + i) = (ws.getD i 0).toNat then fixE l (a + (i + 1)) (ws.drop (i + 1)) else some (5, a + i)) = r := by
  rw [List.drop_eq_getElem_cons hi] at H
  have e : ws.getD i 0 = ws[i] := by rw [List.getD_eq_getElem?_getD, List.getElem?_eq_getElem hi]; rfl
  rw [e]
  exact H
theorem But.drewN {B : Nat} {S : Nat → Prop} {a w : World} (h : But B S a w) (n : Nat) : But B S a (w.drewN n) := h.trans ⟨rfl, rfl, rfl, Nat.le_refl _, fun _ _ _ => rfl⟩
theorem Scn.later {w w' : World} {sb : Nat} {v : Value} {at_ e p B : Nat} {S : Nat → Prop} (h : Scn w sb v at_ e p) (hb : But B S w w') (h1 : sb < B) (h2 : ¬ S sb) : Scn w' sb v at_ e p := RowAt.later h hb h1 h2
theorem Scn.heap {w w' : World} {sb : Nat} {v : Value} {at_ e p : Nat} (h : Scn w sb v at_ e p) (hh : w'.heap = w.heap) : Scn w' sb v at_ e p := by
  unfold Scn RowAt at *
  rw [hh]; exact h

theorem index_str (ws : List UInt8) (i : Nat) (hi : i < ws.length) : ∀ w, (Instr.index 9 (.string ⟨ws.toArray⟩) (.int .i64 (i : Int))).run Tryd.prog w = .ok (.int .u8 ((ws.getD i 0).toNat : Int)) w := by
  intro w
  rw [run_index_string w 9 _ _ _ Tryd.underlying9]
  have h : 0 ≤ (i : Int) ∧ (i : Int) < ((⟨ws.toArray⟩ : ByteArray).size : Int) := by simp [ByteArray.size]; omega
  rw [dif_pos h]
  have e : ws.getD i 0 = ws[i] := by rw [List.getD_eq_getElem?_getD, List.getElem?_eq_getElem hi]; rfl
  rw [e]
  rfl
set_option maxHeartbeats 1000000 in
set_option maxRecDepth 100000 in
theorem fixed_any (sb : Nat) (ws : List UInt8) (hws : ws.length < 100) (bb bo cap : Nat) (hbs : bb ≠ sb) (l : List UInt8) (hl : l.length < 2 ^ 60) (at_ e p : Nat) (ha : at_ < 2 ^ 60) (w : World) (h : Scn w sb (.slice (some ⟨bb, bo, none⟩) l.length cap) at_ e p) (hb : Byt w bb bo l) (hbb : bb < w.heap.size) :
    Calls Tryd.prog 45 #[.pointer (some ⟨sb, 0, none⟩), .string ⟨ws.toArray⟩] w fun r w' => r = .returned (.tuple #[]) ∧ Scn w' sb (.slice (some ⟨bb, bo, none⟩) l.length cap) at_ (eOf (fixE l at_ ws) e) (pOf (fixE l at_ ws) e p) ∧ But w.heap.size (· = sb) w w' := by
  have hsb := RowAt.lt h
  go_enter Tryd.func45, Tryd.ntmps45
  go_wp2
  go_loopw [4] (fun vi wr => ∃ i : Nat, i ≤ ws.length ∧ vi = .int .i64 (i : Int) ∧ But w.heap.size (· = sb) w wr ∧
    ((e = 0 ∧ Scn wr sb (.slice (some ⟨bb, bo, none⟩) l.length cap) at_ 0 p ∧ fixE l (at_ + i) (ws.drop i) = fixE l at_ ws) ∨
     ((∃ e', e' ≠ 0 ∧ e' = eOf (fixE l at_ ws) e ∧ Scn wr sb (.slice (some ⟨bb, bo, none⟩) l.length cap) at_ e' (pOf (fixE l at_ ws) e p)))) ) (fun i _ => ws.length - (intOf i).toNat)
  case atStart =>
    refine ⟨0, by omega, rfl, But.refl _ _ _, ?_⟩
    by_cases he : e = 0
    · exact .inl ⟨he, he ▸ h, rfl⟩
    · exact .inr ⟨e, he, (eOf_err he _).symm, by rw [pOf_err he]; exact h⟩
  case round =>
    obtain ⟨i, hi, rfl, hB, hS⟩ := hrel
    have hlen : (⟨ws.toArray⟩ : ByteArray).size = ws.length := by simp [ByteArray.size]
    rcases hS with ⟨rfl, hS, H⟩ | ⟨e', he', ee, hS⟩
    · have c0 := hS.c0
      have c1 := hS.c1
      have c2 := hS.c2
      by_cases hlt : i < ws.length
      · have HH : Hid _ := fixE_step hlt H
        clear H
        by_cases hge : l.length ≤ at_ + i
        · have hge' : ((at_ : Int) + (i : Int) ≥ (l.length : Int)) := by omega
          have H2 : Hid (fixE l at_ ws = some (4, l.length)) := by have := HH.out; rw [if_pos hge] at this; exact this.symm
          clear HH hge
          go_wp2
          go_quiet (fail)
          go_wp2_with (first | (go_at_call 73; refine (err_any sb _ _ 4 l.length (by rfl) (by rfl) _ at_ 0 p _ (by exact hS.heap rfl)).mono ?_; rintro r w' ⟨rfl, h1, b1⟩))
          go_roundw
          case rel => exact ⟨i + 1, by omega, by go_num, (hB.drewN _).trans (b1.mono hB.size (fun _ x => x)), .inr ⟨4, by decide, by rw [H2.out]; rfl, by rw [H2.out]; exact h1⟩⟩
          case measure => simp [intOf]; omega
        · have hlt2 : at_ + i < l.length := by omega
          have hge' : decide ((l.length : Int) ≤ (at_ : Int) + (i : Int)) = false := by simp; omega
          have hcell := (hb.later hB hbb hbs) (at_ + i) hlt2
          have hix := index_str ws i hlt
          obtain ⟨x, ex⟩ : ∃ x, bAt l (at_ + i) = x := ⟨_, rfl⟩
          obtain ⟨y, ey⟩ : ∃ y, (ws.getD i 0).toNat = y := ⟨_, rfl⟩
          rw [ex] at hcell HH
          rw [ey] at hix HH
          clear ex ey
          by_cases hc : x = y
          · have H2 : Hid (fixE l (at_ + (i + 1)) (ws.drop (i + 1)) = fixE l at_ ws) := by have := HH.out; rw [if_neg hge, if_pos hc] at this; exact this
            clear HH hge
            go_wp2
            go_quiet (fail)
            go_wp2
            go_quiet (fail)
            go_wp2
            go_roundw
            case rel => exact ⟨i + 1, by omega, by go_num, hB.drewN _, .inl ⟨by simp, hS.heap rfl, H2⟩⟩
            case measure => simp [intOf]; omega
          · have H2 : Hid (fixE l at_ ws = some (5, at_ + i)) := by have := HH.out; rw [if_neg hge, if_neg hc] at this; exact this.symm
            have hc' : ((x : Int) == (y : Int)) = false := by simp; omega
            clear HH hge hc
            go_wp2
            go_quiet (fail)
            go_wp2
            go_quiet (fail)
            go_wp2_with (first | (go_at_call 73; refine (err_any sb _ _ 5 (at_ + i) (by rfl) (by simp) _ at_ 0 p _ (by exact hS.heap rfl)).mono ?_; rintro r w' ⟨rfl, h1, b1⟩))
            go_roundw
            case rel => exact ⟨i + 1, by omega, by go_num, (hB.drewN _).trans (b1.mono hB.size (fun _ x => x)), .inr ⟨5, by decide, by rw [H2.out]; rfl, by rw [H2.out]; exact h1⟩⟩
            case measure => simp [intOf]; omega
      · have ei : i = ws.length := by omega
        have H2 : Hid (fixE l at_ ws = none) := by rw [← H, ei, List.drop_length]; rfl
        clear H
        go_wp2
        go_end0
        exact ⟨rfl, by rw [H2.out]; exact hS, hB⟩
    · have c2 := hS.c2
      have he2 : ((e' : Int) == 0) = false := by simp; omega
      have EE : Hid (e' = eOf (fixE l at_ ws) e) := ee
      clear he' ee
      by_cases hlt : i < ws.length
      · go_wp2
        go_end0
        exact ⟨rfl, EE.out ▸ hS, hB⟩
      · go_wp2
        go_end0
        exact ⟨rfl, EE.out ▸ hS, hB⟩
end Go.Proofs.YtkpcmfgeanlcnaaDoor

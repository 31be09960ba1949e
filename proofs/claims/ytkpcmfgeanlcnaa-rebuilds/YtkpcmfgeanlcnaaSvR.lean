/-
  A world with its windows shut; what the elimination says of bytes.
-/
import Derived.Test.YtkpcmfgeanlcnaaLfK
import Derived.Test.YtkpcmfgeanlcnaaGjB
import Derived.Test.YtkpcmfgeanlcnaaCoE
import Derived.Test.YtkpcmfgeanlcnaaRowW
namespace Go.Lf
open Go.Conc

def isGh : Obj → Bool
  | .view a _ => !a.spot.isSome
  | .pending .. => true
  | _ => false
def shut : Obj → Obj
  | .view _ t => .view ⟨0, 0, some default⟩ t
  | .pending .. => .stringIter .empty 0
  | o => o
def empt : Obj → Obj
  | .cells _ t fr => .cells #[] t fr
  | o => o
theorem isGh_no {o : Obj} (h : isGh o = false) : NoView o := by
  cases o <;> first | trivial | (simp [isGh] at h; exact h) | cases h
theorem isGh_yes {o : Obj} (h : isGh o = true) : Ghost o (shut o) := by
  cases o <;> first | exact .inl ⟨_, _, rfl, rfl⟩ | exact .inr ⟨_, _, rfl, rfl⟩ | cases h

/-- The world with its windows shut, and one row of cells emptied. -/
def fixO (Wg : Option Nat) (b : Nat) (o : Obj) : Obj := if some b = Wg then empt o else if isGh o then shut o else o
theorem doctor (w : World) (Wg : Option Nat) (h : ∀ b, some b = Wg → ∃ cs t fr, w.heap[b]? = some (.cells cs t fr)) :
    ∃ (Y : Nat → Option Obj) (v : World), Sim (fun b => some b = Wg) Y w v ∧ (∀ b c t fr, some b ≠ Wg → w.heap[b]? = some (.cells c t fr) → v.heap[b]? = some (.cells c t fr)) := by
  let Y : Nat → Option Obj := fun b => if some b = Wg then none else (w.heap[b]?).bind fun o => if isGh o then some o else none
  have hget : ∀ b, (w.heap.mapIdx (fixO Wg))[b]? = (w.heap[b]?).map (fixO Wg b) := fun b => by simp
  have hY : ∀ b o, Y b = some o → some b ≠ Wg ∧ w.heap[b]? = some o ∧ isGh o = true := fun b o hy => by
    simp only [Y] at hy
    split at hy
    · cases hy
    · rename_i hne
      cases hb : w.heap[b]? with
      | none => rw [hb] at hy; cases hy
      | some o' =>
        rw [hb] at hy
        simp only [Option.bind_some] at hy
        split at hy
        · rename_i hg
          cases hy
          exact ⟨hne, rfl, hg⟩
        · cases hy
  refine ⟨Y, { w with heap := w.heap.mapIdx (fixO Wg) }, ⟨by simp, fun b hb => ?_, fun b hx hy => ?_, fun b o hy => ?_, fun b hx => ?_, fun b o hb => ?_, rfl, rfl, fun _ _ => rfl⟩, fun b c t fr hx hb => ?_⟩
  · rcases hb with hb | hb
    · obtain ⟨cs, t, fr, hc⟩ := h b hb
      simpa using (Array.getElem?_eq_some_iff.1 hc).1
    · obtain ⟨o, ho⟩ := Option.isSome_iff_exists.1 hb
      simpa using (Array.getElem?_eq_some_iff.1 (hY b o ho).2.1).1
  · show w.heap[b]? = (w.heap.mapIdx (fixO Wg))[b]?
    rw [hget]
    cases hb : w.heap[b]? with
    | none => rfl
    | some o =>
      simp only [Y, if_neg hx, hb, Option.bind_some] at hy
      have hg : isGh o = false := by
        cases hg : isGh o with
        | false => rfl
        | true => rw [hg] at hy; cases hy
      simp only [Option.map_some, fixO, if_neg hx, hg, Bool.false_eq_true, if_false]
  · obtain ⟨h1, h2, h3⟩ := hY b o hy
    refine ⟨shut o, h2, ?_, isGh_yes h3⟩
    show (w.heap.mapIdx (fixO Wg))[b]? = _
    rw [hget, h2]
    simp only [Option.map_some, fixO, if_neg h1, h3, if_true]
  · obtain ⟨cs, t, fr, hc⟩ := h b hx
    refine ⟨cs, t, fr, hc, ?_⟩
    show (w.heap.mapIdx (fixO Wg))[b]? = _
    rw [hget, hc]
    simp only [Option.map_some, fixO, if_pos hx, empt]
  · change (w.heap.mapIdx (fixO Wg))[b]? = some o at hb
    rw [hget] at hb
    obtain ⟨o', h1, rfl⟩ := Option.map_eq_some_iff.1 hb
    unfold fixO
    split
    · rename_i hx
      obtain ⟨cs, t, fr, hc⟩ := h b hx
      rw [h1] at hc
      cases hc
      trivial
    · split
      · rename_i hg
        exact (isGh_yes hg).nv
      · rename_i hg
        exact isGh_no (by simpa using hg)
  · show (w.heap.mapIdx (fixO Wg))[b]? = _
    rw [hget, hb]
    simp only [Option.map_some, fixO, if_neg hx, isGh, Bool.false_eq_true, if_false]
end Go.Lf

namespace Go.Proofs.Ytkpcmfgeanlcnaa
theorem sum_snoc (n : Nat) (f : Nat → F) : F.sum (List.range (n + 1)) f = F.add (F.sum (List.range n) f) (f n) := by
  have key : ∀ (l : List Nat) (x : Nat), F.sum (l ++ [x]) f = F.add (F.sum l f) (f x) := fun l x => by
    induction l with
    | nil => simp only [List.nil_append, F.sum]; rw [F.add_zero, F.zero_add]
    | cons y l ih => simp only [List.cons_append, F.sum, ih, F.add_assoc]
  rw [List.range_succ, key]

/-- Columns added up, at one place. -/
theorem comb_get (w : Nat → Nat) (c : Nat → List Nat) (L m : Nat) (hm : m < L) (hc : ∀ j, (c j).length = L) : ∀ n : Nat,
    (comb ((List.range n).map fun j => (w j, c j)) (List.replicate L 0)).getD m 0 = Nat.rec (motive := fun _ => Nat) 0 (fun j r => r ^^^ mul ((c j).getD m 0) (w j)) n
  | 0 => by
    show (List.replicate L 0).getD m 0 = 0
    simp [hm]
  | n + 1 => by
    rw [List.range_succ, List.map_append]
    simp only [List.map_cons, List.map_nil]
    rw [comb_snoc]
    have hl : (comb ((List.range n).map fun j => (w j, c j)) (List.replicate L 0)).length = L := by rw [comb_length]; simp
    have ih := comb_get w c L m hm hc n
    have key : ∀ (f : Nat) (xs ys : List Nat) (m : Nat), m < xs.length → m < ys.length → (addT f xs ys).getD m 0 = xs.getD m 0 ^^^ mul (ys.getD m 0) f := by
      intro f xs
      induction xs with
      | nil => intro ys m h; simp at h
      | cons x xs ihx =>
        intro ys m h h'
        cases ys with
        | nil => simp at h'
        | cons y ys =>
          cases m with
          | zero => simp [addT]
          | succ m =>
            simp only [addT, List.getD_cons_succ]
            exact ihx ys m (by simpa using h) (by simpa using h')
    rw [key _ _ _ m (by rw [hl]; exact hm) (by rw [hc]; exact hm), ih]
theorem rec_dot (K : Nat) (R X : Nat → F) : ∀ n, Nat.rec (motive := fun _ => Nat) 0 (fun j r => r ^^^ mul (X j).val (R j).val) n = (F.sum (List.range n) fun j => F.mu (R j) (X j)).val
  | 0 => rfl
  | n + 1 => by
    rw [sum_snoc]
    show _ ^^^ _ = (F.sum (List.range n) fun j => F.mu (R j) (X j)).val ^^^ (F.mu (R n) (X n)).val
    rw [← rec_dot K R X n, F.mu_comm]
    rfl
end Go.Proofs.Ytkpcmfgeanlcnaa

/-
  Words in their order; a tree in a list, in which no word is less than the one that it is below.
-/
import Derived.Test.YtkpcmfgeanlcnabDoorProg
import Derived.Test.YtkpcmfgeanlcnabDoorRowW
import Derived.Laws.Rows
import Derived.Laws.OwnMore
import Derived.Deep.AppendLies
import Derived.Lib.OwnKind
import Derived.Deep.Onto
import Derived.BigQuiet
import Derived.BigRegion
import Derived.WalkKit
import Derived.RowKit
import Derived.KernelRfl
namespace Go.Hp

theorem u8_cmp (a b : UInt8) : (a < b ∧ ¬ b < a ∧ a ≠ b) ∨ (b < a ∧ ¬ a < b ∧ a ≠ b) ∨ (a = b ∧ ¬ a < b ∧ ¬ b < a) := by
  rcases Nat.lt_trichotomy a.toNat b.toNat with h | h | h
  · refine .inl ⟨UInt8.lt_iff_toNat_lt.2 h, fun h' => ?_, fun e => ?_⟩
    · have := UInt8.lt_iff_toNat_lt.1 h'; omega
    · subst e; omega
  · have e : a = b := UInt8.toNat_inj.1 h
    subst e
    exact .inr (.inr ⟨rfl, fun h' => by have := UInt8.lt_iff_toNat_lt.1 h'; omega, fun h' => by have := UInt8.lt_iff_toNat_lt.1 h'; omega⟩)
  · refine .inr (.inl ⟨UInt8.lt_iff_toNat_lt.2 h, fun h' => ?_, fun e => ?_⟩)
    · have := UInt8.lt_iff_toNat_lt.1 h'; omega
    · subst e; omega
abbrev lt (a b : List UInt8) : Bool := Op.bytesLess a b
theorem lt_irrefl : ∀ a : List UInt8, lt a a = false
  | [] => rfl
  | x :: a => by
    have h := u8_cmp x x
    simp only [lt, Op.bytesLess] at *
    have := lt_irrefl a
    simp only [lt] at this
    simp [this]
theorem lt_tri : ∀ a b : List UInt8, (lt a b = true ∧ lt b a = false ∧ a ≠ b) ∨ (lt b a = true ∧ lt a b = false ∧ a ≠ b) ∨ (a = b ∧ lt a b = false ∧ lt b a = false)
  | [], [] => .inr (.inr ⟨rfl, rfl, rfl⟩)
  | [], y :: b => .inl ⟨rfl, rfl, by simp⟩
  | x :: a, [] => .inr (.inl ⟨rfl, rfl, by simp⟩)
  | x :: a, y :: b => by
    simp only [lt, Op.bytesLess]
    rcases u8_cmp x y with ⟨h1, h2, h3⟩ | ⟨h1, h2, h3⟩ | ⟨rfl, h2, _⟩
    · exact .inl ⟨by simp [h1], by simp [h2, Ne.symm h3], by simp [h3]⟩
    · exact .inr (.inl ⟨by simp [h1], by simp [h2, h3], by simp [h3]⟩)
    · rcases lt_tri a b with ⟨g1, g2, g3⟩ | ⟨g1, g2, g3⟩ | ⟨rfl, g2, g3⟩
      · exact .inl ⟨by simp only [lt] at g1; simp [g1], by simp only [lt] at g2; simp [g2], by simp [g3]⟩
      · exact .inr (.inl ⟨by simp only [lt] at g1; simp [g1], by simp only [lt] at g2; simp [g2], by simp [g3]⟩)
      · exact .inr (.inr ⟨rfl, by simp only [lt] at g2; simp [g2], by simp only [lt] at g2; simp [g2]⟩)
theorem lt_trans : ∀ {a b c : List UInt8}, lt a b = true → lt b c = true → lt a c = true
  | _, [], _, h, _ => by simp [lt, Op.bytesLess] at h
  | _, _ :: _, [], _, h => by simp [lt, Op.bytesLess] at h
  | [], _ :: _, _ :: _, _, _ => rfl
  | x :: a, y :: b, z :: c, h1, h2 => by
    simp only [lt, Op.bytesLess, Bool.or_eq_true, decide_eq_true_eq, Bool.and_eq_true, beq_iff_eq] at h1 h2 ⊢
    rcases h1 with h1 | ⟨rfl, h1⟩
    · rcases h2 with h2 | ⟨rfl, h2⟩
      · exact .inl (UInt8.lt_iff_toNat_lt.2 (by have := UInt8.lt_iff_toNat_lt.1 h1; have := UInt8.lt_iff_toNat_lt.1 h2; omega))
      · exact .inl h1
    · rcases h2 with h2 | ⟨rfl, h2⟩
      · exact .inl h2
      · exact .inr ⟨rfl, lt_trans (a := a) (b := b) (c := c) h1 h2⟩
/-- Not behind. -/
def le (a b : List UInt8) : Prop := lt b a = false
theorem le_refl (a : List UInt8) : le a a := lt_irrefl a
theorem le_of_lt {a b : List UInt8} (h : lt a b = true) : le a b := by
  rcases lt_tri a b with ⟨_, h2, _⟩ | ⟨_, h2, _⟩ | ⟨_, h2, _⟩
  · exact h2
  · rw [h] at h2; cases h2
  · rw [h] at h2; cases h2
theorem le_of_not {a b : List UInt8} (h : lt a b = false) : le b a := h
theorem le_trans {a b c : List UInt8} (h1 : le a b) (h2 : le b c) : le a c := by
  unfold le at *
  rcases lt_tri a c with ⟨_, h, _⟩ | ⟨h, _, _⟩ | ⟨_, _, h⟩
  · exact h
  · exfalso
    rcases lt_tri a b with ⟨g, _, _⟩ | ⟨g, _, _⟩ | ⟨rfl, _, _⟩
    · have := lt_trans h g
      rw [h2] at this
      cases this
    · rw [h1] at g; cases g
    · rw [h2] at h; cases h
  · exact h
theorem lt_of_le_ne {a b : List UInt8} (h : le a b) (hn : a ≠ b) : lt a b = true := by
  rcases lt_tri a b with ⟨g, _, _⟩ | ⟨g, _, _⟩ | ⟨e, _, _⟩
  · exact g
  · unfold le at h; rw [h] at g; cases g
  · exact absurd e hn
/-- The program's 'not behind'. -/
theorem notAfter_iff (a b : List UInt8) : (Op.bytesLess a b || a == b) = true ↔ le a b := by
  rcases lt_tri a b with ⟨g1, g2, _⟩ | ⟨g1, g2, g3⟩ | ⟨rfl, g2, g3⟩
  · simp only [lt] at g1 g2; simp [le, g1, g2]
  · simp only [lt] at g1 g2; simp [le, g1, g2, g3]
  · simp only [lt] at g2; simp [le, g2]

/-- A thing with its word. -/
structure Ent where
  k : List UInt8
  a : Option Addr
  l : Nat
  c : Nat
def Ent.d (e : Ent) : Value := .slice e.a e.l e.c

/-- Put in another order. -/
def Rearr (n : Nat) (f g : Nat → Ent) : Prop := ∃ σ τ : Nat → Nat, (∀ i, i < n → σ i < n ∧ τ i < n ∧ τ (σ i) = i ∧ σ (τ i) = i) ∧ ∀ i, i < n → g i = f (σ i)
theorem Rearr.refl (n : Nat) (f : Nat → Ent) : Rearr n f f := ⟨id, id, fun _ h => ⟨h, h, rfl, rfl⟩, fun _ _ => rfl⟩
theorem Rearr.symm {n : Nat} {f g : Nat → Ent} (a : Rearr n f g) : Rearr n g f := by
  obtain ⟨σ, τ, s, t⟩ := a
  exact ⟨τ, σ, fun i hi => ⟨(s i hi).2.1, (s i hi).1, (s i hi).2.2.2, (s i hi).2.2.1⟩, fun i hi => by rw [t _ (s i hi).2.1, (s i hi).2.2.2]⟩
theorem Rearr.trans {n : Nat} {f g h : Nat → Ent} (a : Rearr n f g) (b : Rearr n g h) : Rearr n f h := by
  obtain ⟨σ, σ', s1, s2⟩ := a
  obtain ⟨τ, τ', t1, t2⟩ := b
  refine ⟨fun i => σ (τ i), fun i => τ' (σ' i), fun i hi => ?_, fun i hi => by rw [t2 i hi, s2 _ (t1 i hi).1]⟩
  have a1 := t1 i hi
  have a2 := s1 (τ i) a1.1
  have b1 := s1 i hi
  have b2 := t1 (σ' i) b1.2.1
  exact ⟨a2.1, b2.2.1, by show τ' (σ' (σ (τ i))) = i; rw [a2.2.2.1, a1.2.2.1], by show σ (τ (τ' (σ' i))) = i; rw [b2.2.2.2, b1.2.2.2]⟩
theorem Rearr.congr {n : Nat} {f g h : Nat → Ent} (a : Rearr n f g) (b : ∀ i, i < n → g i = h i) : Rearr n f h := by
  obtain ⟨σ, τ, s1, s2⟩ := a
  exact ⟨σ, τ, s1, fun i hi => (b i hi).symm.trans (s2 i hi)⟩
theorem Rearr.from {n : Nat} {f g : Nat → Ent} (a : Rearr n f g) {i : Nat} (hi : i < n) : ∃ j, j < n ∧ g i = f j := by
  obtain ⟨σ, τ, s1, s2⟩ := a
  exact ⟨σ i, (s1 i hi).1, s2 i hi⟩
/-- Two that were apart are apart. -/
theorem Rearr.two {n : Nat} {f g : Nat → Ent} (a : Rearr n f g) {i j : Nat} (hi : i < n) (hj : j < n) (hij : i ≠ j) : ∃ i' j', i' < n ∧ j' < n ∧ i' ≠ j' ∧ g i = f i' ∧ g j = f j' := by
  obtain ⟨σ, τ, s1, s2⟩ := a
  exact ⟨σ i, σ j, (s1 i hi).1, (s1 j hj).1, fun e => hij (by rw [← (s1 i hi).2.2.1, e, (s1 j hj).2.2.1]), s2 i hi, s2 j hj⟩
def swp (f : Nat → Ent) (i j : Nat) : Nat → Ent := fun x => if x = i then f j else if x = j then f i else f x
theorem Rearr.swp {n i j : Nat} (f : Nat → Ent) (hi : i < n) (hj : j < n) : Rearr n f (swp f i j) := by
  have key : ∀ x, x < n → (if x = i then j else if x = j then i else x) < n ∧ (if (if x = i then j else if x = j then i else x) = i then j else if (if x = i then j else if x = j then i else x) = j then i else (if x = i then j else if x = j then i else x)) = x := fun x hx => by
    by_cases e1 : x = i
    · rw [if_pos e1]
      by_cases e2 : j = i
      · rw [if_pos e2]; exact ⟨hj, by omega⟩
      · rw [if_neg e2, if_pos rfl]; exact ⟨hj, e1.symm⟩
    · rw [if_neg e1]
      by_cases e2 : x = j
      · rw [if_pos e2, if_pos rfl]; exact ⟨hi, e2.symm⟩
      · rw [if_neg e2, if_neg e1, if_neg e2]; exact ⟨hx, rfl⟩
  refine ⟨fun x => if x = i then j else if x = j then i else x, fun x => if x = i then j else if x = j then i else x, fun x hx => ⟨(key x hx).1, (key x hx).1, (key x hx).2, (key x hx).2⟩, fun x hx => ?_⟩
  unfold Hp.swp
  dsimp only
  split
  · rfl
  · split <;> rfl
/-- One more at the end. -/
theorem Rearr.snoc {n : Nat} {f g : Nat → Ent} (a : Rearr n f g) {f' g' : Nat → Ent} (hf : ∀ i, i < n → f' i = f i) (hg : ∀ i, i < n → g' i = g i) (he : f' n = g' n) : Rearr (n + 1) f' g' := by
  obtain ⟨σ, τ, s1, s2⟩ := a
  refine ⟨fun i => if i = n then n else σ i, fun i => if i = n then n else τ i, fun i hi => ?_, fun i hi => ?_⟩
  · by_cases e : i = n
    · simp only [if_pos e, if_true]; exact ⟨by omega, by omega, e.symm, e.symm⟩
    · have a1 := s1 i (by omega)
      simp only [if_neg e, if_neg (show ¬ σ i = n by omega), if_neg (show ¬ τ i = n by omega)]
      exact ⟨by omega, by omega, a1.2.2.1, a1.2.2.2⟩
  · dsimp only; split
    · rename_i e; rw [e, he]
    · rw [hg i (by omega), s2 i (by omega), hf _ (s1 i (by omega)).1]
/-- What is behind put in another order. -/
theorem Rearr.tail {n m k : Nat} {o g g' : Nat → Ent} (a : Rearr k g g') (h : m + k = n) : Rearr n (fun x => if x < m then o x else g (x - m)) (fun x => if x < m then o x else g' (x - m)) := by
  obtain ⟨σ, τ, s1, s2⟩ := a
  refine ⟨fun x => if x < m then x else m + σ (x - m), fun x => if x < m then x else m + τ (x - m), fun x hx => ?_, fun x hx => ?_⟩
  · by_cases e : x < m
    · simp only [if_pos e]; exact ⟨hx, hx, trivial, trivial⟩
    · have a1 := s1 (x - m) (by omega)
      simp only [if_neg e, if_neg (show ¬ m + σ (x - m) < m by omega), if_neg (show ¬ m + τ (x - m) < m by omega), Nat.add_sub_cancel_left, a1.2.2.1, a1.2.2.2]
      exact ⟨by omega, by omega, by omega, by omega⟩
  · by_cases e : x < m
    · simp only [if_pos e]
    · simp only [if_neg e, if_neg (show ¬ m + σ (x - m) < m by omega), Nat.add_sub_cancel_left]
      exact s2 _ (by omega)
/-- The first of what is behind comes to the fore; the last takes its place. -/
theorem Rearr.popped {n m k : Nat} {o g : Nat → Ent} (h : m + (k + 1) = n) : Rearr n (fun x => if x < m then o x else g (x - m)) (fun x => if x < m + 1 then (if x = m then g 0 else o x) else (if x - (m + 1) = 0 then g k else g (x - (m + 1)))) := by
  refine ⟨fun x => if x ≤ m then x else if x = m + 1 then n - 1 else x - 1, fun x => if x ≤ m then x else if x = n - 1 then m + 1 else x + 1, fun x hx => ?_, fun x hx => ?_⟩
  · by_cases e : x ≤ m
    · simp only [if_pos e]; exact ⟨hx, hx, trivial, trivial⟩
    · by_cases e2 : x = m + 1
      · simp only [if_neg e, if_pos e2, if_neg (show ¬ n - 1 ≤ m by omega), if_true]
        by_cases e3 : x = n - 1
        · simp only [if_pos e3, if_neg (show ¬ m + 1 ≤ m by omega), if_true]; exact ⟨by omega, by omega, by omega, by omega⟩
        · simp only [if_neg e3, if_neg (show ¬ x + 1 ≤ m by omega), if_neg (show ¬ x + 1 = m + 1 by omega)]; exact ⟨by omega, by omega, by omega, by omega⟩
      · simp only [if_neg e, if_neg e2, if_neg (show ¬ x - 1 ≤ m by omega), if_neg (show ¬ x - 1 = n - 1 by omega)]
        by_cases e3 : x = n - 1
        · simp only [if_pos e3, if_neg (show ¬ m + 1 ≤ m by omega), if_true]; exact ⟨by omega, by omega, by omega, by omega⟩
        · simp only [if_neg e3, if_neg (show ¬ x + 1 ≤ m by omega), if_neg (show ¬ x + 1 = m + 1 by omega)]; exact ⟨by omega, by omega, by omega, by omega⟩
  · by_cases e : x ≤ m
    · simp only [if_pos e, if_pos (show x < m + 1 by omega)]
      by_cases e2 : x = m
      · rw [if_pos e2, if_neg (by omega), e2, Nat.sub_self]
      · rw [if_neg e2, if_pos (by omega)]
    · by_cases e2 : x = m + 1
      · simp only [if_neg e, if_pos e2, if_neg (show ¬ x < m + 1 by omega), if_neg (show ¬ n - 1 < m by omega), if_pos (show x - (m + 1) = 0 by omega)]
        congr 1
        omega
      · simp only [if_neg e, if_neg e2, if_neg (show ¬ x < m + 1 by omega), if_neg (show ¬ x - 1 < m by omega), if_neg (show ¬ x - (m + 1) = 0 by omega)]
        congr 1
        omega

/-- No word is less than the one that it is below. -/
def Hp (f : Nat → Ent) (n : Nat) : Prop := ∀ c, 0 < c → c < n → le (f ((c - 1) / 2)).k (f c).k
def HpUp (f : Nat → Ent) (n i : Nat) : Prop := (∀ c, 0 < c → c < n → c ≠ i → le (f ((c - 1) / 2)).k (f c).k) ∧ ∀ c, 0 < c → c < n → (c - 1) / 2 = i → 0 < i → le (f ((i - 1) / 2)).k (f c).k
def HpDn (f : Nat → Ent) (n i : Nat) : Prop := (∀ c, 0 < c → c < n → (c - 1) / 2 ≠ i → le (f ((c - 1) / 2)).k (f c).k) ∧ ∀ c, 0 < c → c < n → (c - 1) / 2 = i → 0 < i → le (f ((i - 1) / 2)).k (f c).k
theorem up_stop {f : Nat → Ent} {n i : Nat} (h : HpUp f n i) (hs : 0 < i → le (f ((i - 1) / 2)).k (f i).k) : Hp f n := fun c h0 hc => by
  by_cases e : c = i
  · subst e; exact hs h0
  · exact h.1 c h0 hc e
theorem up_step {f : Nat → Ent} {n i : Nat} (h : HpUp f n i) (hi0 : 0 < i) (hi : i < n) (hl : lt (f i).k (f ((i - 1) / 2)).k = true) : HpUp (swp f ((i - 1) / 2) i) n ((i - 1) / 2) := by
  have hp : (i - 1) / 2 < i := by omega
  generalize hpi : (i - 1) / 2 = p at *
  refine ⟨fun c h0 hc hne => ?_, fun c h0 hc hcp hp0 => ?_⟩
  · by_cases e : c = i
    · subst e
      rw [hpi]
      unfold swp
      rw [if_pos rfl, if_neg (by omega), if_pos rfl]
      exact le_of_lt hl
    · by_cases e2 : (c - 1) / 2 = i
      · unfold swp
        rw [e2, if_neg (by omega), if_pos rfl, if_neg hne, if_neg e]
        have := h.2 c h0 hc e2 hi0
        rw [hpi] at this
        exact this
      · by_cases e3 : (c - 1) / 2 = p
        · unfold swp
          rw [e3, if_pos rfl, if_neg hne, if_neg e]
          have := h.1 c h0 hc e
          rw [e3] at this
          exact le_trans (le_of_lt hl) this
        · unfold swp
          rw [if_neg e3, if_neg e2, if_neg hne, if_neg e]
          exact h.1 c h0 hc e
  · have hq : (p - 1) / 2 < p := by omega
    have hpp := h.1 p hp0 (by omega) (by omega)
    unfold swp
    rw [if_neg (show ¬ (p - 1) / 2 = p by omega), if_neg (show ¬ (p - 1) / 2 = i by omega), if_neg (show ¬ c = p by omega)]
    by_cases e : c = i
    · rw [if_pos e]
      exact hpp
    · rw [if_neg e]
      have := h.1 c h0 hc e
      rw [hcp] at this
      exact le_trans hpp this
theorem dn_stop {f : Nat → Ent} {n i : Nat} (h : HpDn f n i) (hs : ∀ c, 0 < c → c < n → (c - 1) / 2 = i → le (f i).k (f c).k) : Hp f n := fun c h0 hc => by
  by_cases e : (c - 1) / 2 = i
  · rw [e]; exact hs c h0 hc e
  · exact h.1 c h0 hc e
theorem dn_step {f : Nat → Ent} {n i c : Nat} (h : HpDn f n i) (hc0 : 0 < c) (hc : c < n) (hci : (c - 1) / 2 = i) (hl : lt (f c).k (f i).k = true) (hm : ∀ c', 0 < c' → c' < n → (c' - 1) / 2 = i → le (f c).k (f c').k) : HpDn (swp f c i) n c := by
  have hic : i < c := by omega
  refine ⟨fun x h0 hx hne => ?_, fun x h0 hx hxc _ => ?_⟩
  · by_cases e : (x - 1) / 2 = i
    · unfold swp
      rw [e, if_neg (by omega), if_pos rfl]
      by_cases e2 : x = c
      · rw [if_pos e2]
        exact le_of_lt hl
      · rw [if_neg e2, if_neg (by omega)]
        exact hm x h0 hx e
    · unfold swp
      rw [if_neg hne, if_neg e]
      by_cases e2 : x = c
      · subst e2; exact absurd hci e
      · rw [if_neg e2]
        by_cases e3 : x = i
        · subst e3
          rw [if_pos rfl]
          exact h.2 c hc0 hc hci h0
        · rw [if_neg e3]
          exact h.1 x h0 hx e
  · unfold swp
    rw [hci, if_neg (show ¬ i = c by omega), if_pos rfl, if_neg (show ¬ x = c by omega), if_neg (show ¬ x = i by omega)]
    have := h.1 x h0 hx (by omega)
    rw [hxc] at this
    exact this
theorem hp_min {f : Nat → Ent} {n : Nat} (h : Hp f n) : ∀ i, i < n → le (f 0).k (f i).k := by
  intro i
  induction i using Nat.strongRecOn with
  | _ i ih =>
    intro hi
    rcases Nat.eq_zero_or_pos i with rfl | h0
    · exact le_refl _
    · exact le_trans (ih ((i - 1) / 2) (by omega) (by omega)) (h i h0 hi)
end Go.Hp

/-
  The program's heap in memory: which of two places has the lesser word; two places changed: run alone.
-/
namespace Go.Proofs.YtkpcmfgeanlcnabDoor
open Go.RowKit Go.Deep Go.Hp

def strV (k : List UInt8) : Value := .string ⟨k.toArray⟩
def entC (e : Ent) : List Value := [strV e.k, strV e.k, e.d]
def entL (n : Nat) (f : Nat → Ent) : List Value := (List.range n).flatMap fun i => entC (f i)
theorem entL_length (n : Nat) (f : Nat → Ent) : (entL n f).length = n * 3 := by
  induction n with
  | zero => rfl
  | succ n ih =>
    unfold entL at *
    rw [List.range_succ, List.flatMap_append, List.length_append, ih]
    simp [entC]
    omega
theorem entL_succ (n : Nat) (f : Nat → Ent) : entL (n + 1) f = entL n f ++ entC (f n) := by
  unfold entL
  rw [List.range_succ, List.flatMap_append]
  simp
theorem entL_get (n : Nat) (f : Nat → Ent) (i p : Nat) (hi : i < n) (hp : p < 3) : (entL n f)[i * 3 + p]? = (entC (f i))[p]? := by
  induction n with
  | zero => omega
  | succ n ih =>
    rw [entL_succ]
    by_cases e : i = n
    · subst e
      rw [List.getElem?_append_right (by rw [entL_length]; omega), entL_length, show i * 3 + p - i * 3 = p by omega]
    · rw [List.getElem?_append_left (by rw [entL_length]; omega), ih (by omega)]
theorem entL_congr {n : Nat} {f g : Nat → Ent} (h : ∀ i, i < n → f i = g i) : entL n f = entL n g := by
  induction n with
  | zero => rfl
  | succ n ih => rw [entL_succ, entL_succ, ih fun i hi => h i (by omega), h n (by omega)]
theorem entL_set (n : Nat) (f : Nat → Ent) (i : Nat) (hi : i < n) (e : Ent) : (((entL n f).set (i * 3) (strV e.k)).set (i * 3 + 1) (strV e.k)).set (i * 3 + 2) e.d = entL n (fun x => if x = i then e else f x) := by
  apply List.ext_getElem?
  intro m
  by_cases hm : m < n * 3
  · have hq : m = m / 3 * 3 + m % 3 := by omega
    have hq3 : m % 3 < 3 := by omega
    generalize m / 3 = q at hq
    generalize m % 3 = p at hq hq3
    subst hq
    rw [entL_get n _ q p (by omega) hq3]
    have hold := entL_get n f q p (by omega) hq3
    simp only [List.getElem?_set, List.length_set, entL_length]
    by_cases e1 : q = i
    · subst e1
      rw [if_pos rfl]
      have : p = 0 ∨ p = 1 ∨ p = 2 := by omega
      rcases this with rfl | rfl | rfl
      · rw [if_neg (by omega), if_neg (by omega), if_pos (by omega), if_pos (by omega)]; rfl
      · rw [if_neg (by omega), if_pos (by omega), if_pos (by omega)]; rfl
      · rw [if_pos (by omega), if_pos (by omega)]; rfl
    · rw [if_neg (by omega), if_neg (by omega), if_neg (by omega), hold, if_neg e1]
  · rw [List.getElem?_eq_none (by simp [entL_length]; omega), List.getElem?_eq_none (by rw [entL_length]; omega)]

/-- All stands but one block. -/
structure Bt (o : Option Nat) (w w' : World) : Prop where
  os : w'.os = w.os
  tape : w'.tape = w.tape
  output : w'.output = w.output
  size : w.heap.size ≤ w'.heap.size
  block : ∀ b, b < w.heap.size → some b ≠ o → w'.heap[b]? = w.heap[b]?
theorem Bt.refl (o : Option Nat) (w : World) : Bt o w w := ⟨rfl, rfl, rfl, Nat.le_refl _, fun _ _ _ => rfl⟩
theorem Bt.trans {o : Option Nat} {a b c : World} (h : Bt o a b) (k : Bt o b c) : Bt o a c := ⟨k.os.trans h.os, k.tape.trans h.tape, k.output.trans h.output, Nat.le_trans h.size k.size, fun x hx hn => (k.block x (Nat.lt_of_lt_of_le hx h.size) hn).trans (h.block x hx hn)⟩
theorem Bt.drew {o : Option Nat} {a w : World} (h : Bt o a w) (n : Nat) : Bt o a (w.drewN n) := ⟨h.os, h.tape, h.output, h.size, h.block⟩
theorem Bt.set {o : Option Nat} {a w : World} (h : Bt o a w) {g p : Nat} (hg : o = some g) (v : Value) : Bt o a (w.setCell ⟨g, p, none⟩ v) :=
  ⟨h.os, h.tape, h.output, by simpa using h.size, fun b hb hn => (Below.heap_setCell _ _ _ _ (fun e : b = g => hn (by rw [e, hg]))).trans (h.block b hb hn)⟩
theorem Bt.below {o : Option Nat} {w w' : World} {B : Nat} (h : Bt o w w') (hB : B ≤ w.heap.size) (ho : ∀ g, o = some g → B ≤ g) : Below B w w' :=
  ⟨h.os, h.tape, h.output, h.size, fun b hb => h.block b (by omega) (fun e => by have := ho b e.symm; omega)⟩

/-- The heap where it lies. -/
structure HA (B h n : Nat) (f : Nat → Ent) (v : Value) (w : World) : Prop where
  var : w.rowIs h 47 1 (fun _ => v)
  own : w.ownsRow B 64 3 v n (entL n f)
  low : h < B
theorem HA.form {B h n : Nat} {f : Nat → Ent} {v : Value} {w : World} (H : HA B h n f v w) (hn : 0 < n) : ∃ g cap, v = .slice (some ⟨g, 0, none⟩) n cap ∧ B ≤ g ∧ n ≤ cap ∧ cap ≤ maxLen := by
  rcases H.own.2 with ⟨_, rfl⟩ | ⟨g, cap, cur, h1, h2, h3, h4, h5, _⟩
  · omega
  · exact ⟨g, cap, h1, h2, h4, h5⟩
theorem HA.at {B h n g cap : Nat} {f : Nat → Ent} {w : World} (H : HA B h n f (.slice (some ⟨g, 0, none⟩) n cap) w) (i : Nat) (hi : i < n) : w.cell? ⟨g, i * 3, none⟩ = some (strV (f i).k) ∧ w.cell? ⟨g, i * 3 + 1, none⟩ = some (strV (f i).k) ∧ w.cell? ⟨g, i * 3 + 2, none⟩ = some (f i).d := by
  have h0 := entL_get n f i 0 hi (by omega)
  have h1 := entL_get n f i 1 hi (by omega)
  have h2 := entL_get n f i 2 hi (by omega)
  exact ⟨by rw [H.own.cellAt (i * 3) (by omega)]; exact h0, by rw [H.own.cellAt (i * 3 + 1) (by omega)]; exact h1, by rw [H.own.cellAt (i * 3 + 2) (by omega)]; exact h2⟩
theorem HA.drew {B h n : Nat} {f : Nat → Ent} {v : Value} {w : World} (H : HA B h n f v w) (m : Nat) : HA B h n f v (w.drewN m) := ⟨H.var, H.own, H.low⟩
theorem HA.congr {B h n : Nat} {f g : Nat → Ent} {v : Value} {w : World} (H : HA B h n f v w) (e : ∀ i, i < n → f i = g i) : HA B h n g v w := ⟨H.var, by rw [← entL_congr e]; exact H.own, H.low⟩

def lsr (n : Nat) (f : Nat → Ent) (i j : Nat) : Nat := if j < n ∧ Hp.lt (f j).k (f i).k = true then j else i
set_option maxHeartbeats 2000000 in
set_option maxRecDepth 100000 in
theorem lesser_any (B h n i j : Nat) (f : Nat → Ent) (v : Value) (w : World) (H : HA B h n f v w) (hij : j < n → i < n) (hj : j < 4611686018427387904) :
    Calls Tryd.prog 40 #[.pointer (some ⟨h, 0, none⟩), .int .i64 ((i : Nat) : Int), .int .i64 ((j : Nat) : Int)] w fun e w' => e = .returned (.int .i64 ((lsr n f i j : Nat) : Int)) ∧ ∃ m, w' = w.drewN m := by
  have a0 := H.var.cell (i := 0) (by omega)
  by_cases hjn : j < n
  · obtain ⟨g, cap, rfl, hg, hnc, hcm⟩ := H.form (by omega)
    have hd : decide ((j : Int) < (n : Int)) = true := by simp; omega
    have hj' : (j : Int) < (n : Int) := by omega
    have hi' : (i : Int) < (n : Int) := by have := hij hjn; omega
    have cj := (H.at j hjn).1
    have ci := (H.at i (hij hjn)).1
    unfold strV at cj ci
    rcases hq : Hp.lt (f j).k (f i).k with _ | _
    · have hr : lsr n f i j = i := by unfold lsr; rw [if_neg (fun x => by rw [hq] at x; exact absurd x.2 (by simp))]
      rw [hr]
      simp only [Hp.lt] at hq
      clear H hij
      go_enter Tryd.func40, Tryd.ntmps40
      go_wp2_with fail
      go_big_quiet (fail)
      go_wp2
      go_ret
      exact ⟨rfl, nq, rfl⟩
    · have hr : lsr n f i j = j := by unfold lsr; rw [if_pos ⟨hjn, hq⟩]
      rw [hr]
      simp only [Hp.lt] at hq
      clear H hij
      go_enter Tryd.func40, Tryd.ntmps40
      go_wp2_with fail
      go_big_quiet (fail)
      go_wp2
      go_ret
      exact ⟨rfl, nq, rfl⟩
  · have hr : lsr n f i j = i := by unfold lsr; rw [if_neg (fun x => hjn x.1)]
    rw [hr]
    have hd : decide ((j : Int) < (n : Int)) = false := by simp; omega
    obtain ⟨bo, cap, rfl⟩ : ∃ bo cap, v = .slice bo n cap := by
      rcases H.own.2 with ⟨rfl, rfl⟩ | ⟨g, cap, _, rfl, _⟩ <;> exact ⟨_, _, rfl⟩
    clear H hij
    go_enter Tryd.func40, Tryd.ntmps40
    go_wp2_with fail
    go_big_quiet (fail)
    go_wp2
    go_ret
    exact ⟨rfl, nq, rfl⟩

theorem HA.swap {B h n g cap i j : Nat} {f : Nat → Ent} {w : World} (H : HA B h n f (.slice (some ⟨g, 0, none⟩) n cap) w) (hi : i < n) (hj : j < n) (hg : B ≤ g) :
    HA B h n (swp f i j) (.slice (some ⟨g, 0, none⟩) n cap) ((((((w.setCell ⟨g, i * 3, none⟩ (strV (f j).k)).setCell ⟨g, i * 3 + 1, none⟩ (strV (f j).k)).setCell ⟨g, i * 3 + 2, none⟩ (f j).d).setCell ⟨g, j * 3, none⟩ (strV (f i).k)).setCell ⟨g, j * 3 + 1, none⟩ (strV (f i).k)).setCell ⟨g, j * 3 + 2, none⟩ (f i).d) := by
  have hne : h ≠ g := by have := H.low; omega
  have o := (((((H.own.stored (i * 3) (strV (f j).k)).1.stored (i * 3 + 1) (strV (f j).k)).1.stored (i * 3 + 2) (f j).d).1.stored (j * 3) (strV (f i).k)).1.stored (j * 3 + 1) (strV (f i).k)).1.stored (j * 3 + 2) (f i).d
  have o1 := o.1
  rw [entL_set n f i hi (f j), entL_set n _ j hj (f i)] at o1
  refine ⟨(((((H.var.setOther (a := ⟨g, i * 3, none⟩) hne _).setOther (a := ⟨g, i * 3 + 1, none⟩) hne _).setOther (a := ⟨g, i * 3 + 2, none⟩) hne _).setOther (a := ⟨g, j * 3, none⟩) hne _).setOther (a := ⟨g, j * 3 + 1, none⟩) hne _).setOther (a := ⟨g, j * 3 + 2, none⟩) hne _, ?_, H.low⟩
  have e : entL n (fun x => if x = j then f i else if x = i then f j else f x) = entL n (swp f i j) := entL_congr fun x _ => by
    unfold swp
    by_cases e1 : x = i
    · by_cases e2 : x = j
      · rw [if_pos e2, if_pos e1, ← e1, ← e2]
      · rw [if_neg e2, if_pos e1, if_pos e1]
    · rw [if_neg e1, if_neg e1]
  rw [← e]
  exact o1

set_option maxHeartbeats 8000000 in
set_option maxRecDepth 100000 in
theorem swap_any (B h n i j : Nat) (f : Nat → Ent) (v : Value) (w : World) (H : HA B h n f v w) (hi : i < n) (hj : j < n) :
    Calls Tryd.prog 39 #[.pointer (some ⟨h, 0, none⟩), .int .i64 ((i : Nat) : Int), .int .i64 ((j : Nat) : Int)] w fun e w' => e = .returned (.tuple #[]) ∧ HA B h n (swp f i j) v w' ∧ Bt v.ownBlock w w' := by
  have a0 := H.var.cell (i := 0) (by omega)
  obtain ⟨g, cap, rfl, hg, hnc, hcm⟩ := H.form (by omega)
  have hi' : (i : Int) < (n : Int) := by omega
  have hj' : (j : Int) < (n : Int) := by omega
  obtain ⟨ci0, ci1, ci2⟩ := H.at i hi
  obtain ⟨cj0, cj1, cj2⟩ := H.at j hj
  have H2 := H.swap hi hj hg
  have hb : Bt (some g) w ((((((w.setCell ⟨g, i * 3, none⟩ (strV (f j).k)).setCell ⟨g, i * 3 + 1, none⟩ (strV (f j).k)).setCell ⟨g, i * 3 + 2, none⟩ (f j).d).setCell ⟨g, j * 3, none⟩ (strV (f i).k)).setCell ⟨g, j * 3 + 1, none⟩ (strV (f i).k)).setCell ⟨g, j * 3 + 2, none⟩ (f i).d) := ((((((Bt.refl (some g) w).set rfl _).set rfl _).set rfl _).set rfl _).set rfl _).set rfl _
  have ex : ∀ {w : World} {xs : List Value}, w.ownsRow B 64 3 (.slice (some ⟨g, 0, none⟩) n cap) n xs → ∀ p, p < n * 3 → ∃ y, w.cell? ⟨g, p, none⟩ = some y := fun {w xs} o p hp => ⟨xs[p]'(by rw [o.1]; exact hp), by rw [o.cellAt p hp]; simp⟩
  have o0 := H.own
  have z0 := o0.frozenAt (i * 3)
  have o1 := (o0.stored (i * 3) (strV (f j).k)).1
  obtain ⟨y1, e1⟩ := ex o1 (i * 3 + 1) (by omega)
  have z1 := o1.frozenAt (i * 3 + 1)
  have o2 := (o1.stored (i * 3 + 1) (strV (f j).k)).1
  obtain ⟨y2, e2⟩ := ex o2 (i * 3 + 2) (by omega)
  have z2 := o2.frozenAt (i * 3 + 2)
  have o3 := (o2.stored (i * 3 + 2) (f j).d).1
  obtain ⟨y3, e3⟩ := ex o3 (j * 3) (by omega)
  have z3 := o3.frozenAt (j * 3)
  have o4 := (o3.stored (j * 3) (strV (f i).k)).1
  obtain ⟨y4, e4⟩ := ex o4 (j * 3 + 1) (by omega)
  have z4 := o4.frozenAt (j * 3 + 1)
  have o5 := (o4.stored (j * 3 + 1) (strV (f i).k)).1
  obtain ⟨y5, e5⟩ := ex o5 (j * 3 + 2) (by omega)
  have z5 := o5.frozenAt (j * 3 + 2)
  clear o0 o1 o2 o3 o4 o5 ex H
  unfold strV Ent.d at *
  go_enter Tryd.func39, Tryd.ntmps39
  go_wp2
  go_region
  go_end0
  clear a0 ci0 ci1 ci2 cj0 cj1 cj2 e1 e2 e3 e4 e5 z0 z1 z2 z3 z4 z5
  generalize ((((((w.setCell ⟨g, i * 3, none⟩ (.string ⟨(f j).k.toArray⟩)).setCell ⟨g, i * 3 + 1, none⟩ (.string ⟨(f j).k.toArray⟩)).setCell ⟨g, i * 3 + 2, none⟩ (.slice (f j).a (f j).l (f j).c)).setCell ⟨g, j * 3, none⟩ (.string ⟨(f i).k.toArray⟩)).setCell ⟨g, j * 3 + 1, none⟩ (.string ⟨(f i).k.toArray⟩)).setCell ⟨g, j * 3 + 2, none⟩ (.slice (f i).a (f i).l (f i).c)) = W at H2 hb ⊢
  exact ⟨rfl, ⟨H2.var, H2.own, H2.low⟩, ⟨hb.os, hb.tape, hb.output, hb.size, hb.block⟩⟩
end Go.Proofs.YtkpcmfgeanlcnabDoor

/-
  The program's heap: a thing is put in, the least is taken out: run alone.
-/
namespace Go.Proofs.YtkpcmfgeanlcnabDoor
open Go.RowKit Go.Deep Go.Hp

def SiftPost (B h n : Nat) (f : Nat → Ent) (v : Value) (w : World) (e : Ending) (w' : World) : Prop := e = .returned (.tuple #[]) ∧ ∃ f', HA B h n f' v w' ∧ Rearr n f f' ∧ Hp f' n ∧ Bt v.ownBlock w w'

set_option maxHeartbeats 2000000 in
set_option maxRecDepth 100000 in
theorem siftUp_any (B h n i : Nat) (f : Nat → Ent) (v : Value) (w : World) (H : HA B h n f v w) (hi : i < n) (hu : HpUp f n i) :
    Calls Tryd.prog 24 #[.pointer (some ⟨h, 0, none⟩), .int .i64 ((i : Nat) : Int)] w fun e w' => SiftPost B h n f v w e w' := by
  obtain ⟨g, cap, rfl, hg, hnc, hcm⟩ := H.form (by omega)
  have hcm' : cap ≤ 9223372036854775807 := hcm
  clear hcm
  go_enter Tryd.func24, Tryd.ntmps24
  go_wp2
  go_loopw [1, 4] (fun vi _ wr => ∃ (i : Nat) (f' : Nat → Ent), i < n ∧ vi = .int .i64 ((i : Nat) : Int) ∧ HA B h n f' (.slice (some ⟨g, 0, none⟩) n cap) wr ∧ Rearr n f f' ∧ HpUp f' n i ∧ Bt (some g) w wr) (fun vi _ _ => (intOf vi).toNat)
  case atStart => exact ⟨i, f, hi, rfl, H, Rearr.refl n f, hu, Bt.refl _ _⟩
  case round =>
    clear H hi hu
    obtain ⟨i, f', hi, rfl, H, hR, hu, hb⟩ := hrel
    by_cases h0 : 0 < i
    · have h0' : (0 : Int) < (i : Int) := by omega
      have a0 := H.var.cell (i := 0) (by omega)
      have hp : (i - 1) / 2 < i := by omega
      have hq : Int.tdiv ((i : Int) - 1) 2 = (((i - 1) / 2 : Nat) : Int) := by
        rw [Int.tdiv_eq_ediv_of_nonneg (by omega)]
        omega
      have c1 := (H.at ((i - 1) / 2) (by omega)).1
      have c2 := (H.at i hi).1
      unfold strV at c1 c2
      have cs := fun m => swap_any B h n ((i - 1) / 2) i f' _ (wr.drewN m) (H.drew m) (by omega) hi
      have hus := fun hl => up_step hu h0 hi hl
      have hst := fun hl => up_stop hu (fun _ => hl)
      have hRs := hR.trans (Rearr.swp f' (show (i - 1) / 2 < n by omega) hi)
      generalize hpp : (i - 1) / 2 = p at *
      have hp' : (p : Int) < (n : Int) := by omega
      have hi' : (i : Int) < (n : Int) := by omega
      rcases hle : (Op.bytesLess (f' p).k (f' i).k || (f' p).k == (f' i).k) with _ | _
      · have hl : Hp.lt (f' i).k (f' p).k = true := by
          rcases hx : Hp.lt (f' i).k (f' p).k with _ | _
          · have := (notAfter_iff (f' p).k (f' i).k).2 hx
            rw [hle] at this
            cases this
          · rfl
        have hus' := hus hl
        clear hus hst hl
        go_wp2_with fail
        go_big_quiet (fail)
        have cs' := cs nq
        have hbq := hb.drew nq
        have hbs := hbq.size
        clear cs H hb
        generalize wr.drewN nq = wq at *
        go_wp2_with (first | (go_at_call 39; (with_reducible refine cs'.mono ?_); rintro e w2 ⟨rfl, hH2, hb2⟩))
        go_roundw
        case rel => exact ⟨p, _, by omega, rfl, hH2, hRs, hus', hbq.trans hb2⟩
        case measure => simp [intOf]; omega
      · have hl := hst ((notAfter_iff (f' p).k (f' i).k).1 hle)
        clear hus hst
        go_wp2_with fail
        go_big_quiet (fail)
        have H2 := H.drew nq
        have hbq := hb.drew nq
        clear cs H hb
        generalize wr.drewN nq = wq at *
        go_wp2
        go_end0
        exact ⟨rfl, f', H2, hR, hl, hbq⟩
    · have h0' : ¬ ((0 : Int) < (i : Int)) := by omega
      go_wp2
      go_end0
      exact ⟨rfl, f', H, hR, up_stop hu (fun h => absurd h h0), hb⟩

theorem lsr_two (n : Nat) (f : Nat → Ent) (i : Nat) : (lsr n f (2 * i + 1) (2 * i + 2) = 2 * i + 1 ∨ lsr n f (2 * i + 1) (2 * i + 2) = 2 * i + 2) ∧ ((lsr n f (2 * i + 1) (2 * i + 2)) < n → ∀ c, 0 < c → c < n → (c - 1) / 2 = i → le (f (lsr n f (2 * i + 1) (2 * i + 2))).k (f c).k) ∧ (lsr n f (2 * i + 1) (2 * i + 2) < n ∨ ∀ c, 0 < c → c < n → (c - 1) / 2 ≠ i) := by
  have hc : ∀ c, 0 < c → (c - 1) / 2 = i → c = 2 * i + 1 ∨ c = 2 * i + 2 := fun c h0 h => by omega
  by_cases h : 2 * i + 2 < n ∧ Hp.lt (f (2 * i + 2)).k (f (2 * i + 1)).k = true
  · have e : lsr n f (2 * i + 1) (2 * i + 2) = 2 * i + 2 := by unfold lsr; rw [if_pos h]
    rw [e]
    refine ⟨.inr rfl, fun _ c h0 hcn hci => ?_, .inl h.1⟩
    rcases hc c h0 hci with rfl | rfl
    · exact le_of_lt h.2
    · exact le_refl _
  · have e : lsr n f (2 * i + 1) (2 * i + 2) = 2 * i + 1 := by unfold lsr; rw [if_neg h]
    rw [e]
    refine ⟨.inl rfl, fun _ c h0 hcn hci => ?_, ?_⟩
    · rcases hc c h0 hci with rfl | rfl
      · exact le_refl _
      · rcases hx : Hp.lt (f (2 * i + 2)).k (f (2 * i + 1)).k with _ | _
        · exact hx
        · exact absurd ⟨hcn, hx⟩ h
    · by_cases hn : 2 * i + 1 < n
      · exact .inl hn
      · refine .inr fun c h0 hcn hci => ?_
        rcases hc c h0 hci with rfl | rfl <;> omega

set_option maxHeartbeats 2000000 in
set_option maxRecDepth 100000 in
theorem siftDown_any (B h n i : Nat) (f : Nat → Ent) (v : Value) (w : World) (H : HA B h n f v w) (hn : n ≤ 4398046511104) (hi : i < n ∨ i = 0) (hu : HpDn f n i) :
    Calls Tryd.prog 25 #[.pointer (some ⟨h, 0, none⟩), .int .i64 ((i : Nat) : Int)] w fun e w' => SiftPost B h n f v w e w' := by
  go_enter Tryd.func25, Tryd.ntmps25
  go_wp2
  go_loopw [1, 4] (fun vi _ wr => ∃ (i : Nat) (f' : Nat → Ent), (i < n ∨ i = 0) ∧ vi = .int .i64 ((i : Nat) : Int) ∧ HA B h n f' v wr ∧ Rearr n f f' ∧ HpDn f' n i ∧ Bt v.ownBlock w wr) (fun vi _ _ => n - (intOf vi).toNat)
  case atStart => exact ⟨i, f, hi, rfl, H, Rearr.refl n f, hu, Bt.refl _ _⟩
  case round =>
    clear H hi hu
    obtain ⟨i, f', hi, rfl, H, hR, hu, hb⟩ := hrel
    obtain ⟨l1, l2, l3⟩ := lsr_two n f' i
    have k1 := lesser_any B h n (2 * i + 1) (2 * i + 2) f' v wr H (by omega) (by omega)
    generalize ha : lsr n f' (2 * i + 1) (2 * i + 2) = a at *
    have k2 := fun w' (H' : HA B h n f' v w') => lesser_any B h n i a f' v w' H' (fun _ => by omega) (by omega)
    have dr : ∀ {w1 w2 : World}, HA B h n f' v w1 → Bt v.ownBlock w w1 → (∃ m, w2 = w1.drewN m) → HA B h n f' v w2 ∧ Bt v.ownBlock w w2 := fun {w1 w2} h1 h2 ⟨m, e⟩ => by subst e; exact ⟨h1.drew m, h2.drew m⟩
    have e1 : 2 * ((i : Nat) : Int) + 1 = ((2 * i + 1 : Nat) : Int) := by omega
    have e2 : 2 * ((i : Nat) : Int) + 2 = ((2 * i + 2 : Nat) : Int) := by omega
    by_cases hx : a < n ∧ Hp.lt (f' a).k (f' i).k = true
    · have el : lsr n f' i a = a := by unfold lsr; rw [if_pos hx]
      have hin : i < n := by omega
      rw [el] at k2
      have hs := dn_step hu (show 0 < a by omega) hx.1 (by omega) hx.2 (l2 hx.1)
      have cs := fun w' (H' : HA B h n f' v w') => swap_any B h n a i f' v w' H' hx.1 hin
      have hRs := hR.trans (Rearr.swp f' hx.1 hin)
      have hne : ((a : Int) == (i : Int)) = false := by simp; omega
      have hlt := hx.1
      clear hx el l2 l3 hu ha
      generalize hi2 : 2 * i + 1 = i1 at *
      generalize hi3 : 2 * i + 2 = i2 at *
      go_wp2_with (first
        | (go_at_call 40; (with_reducible refine k1.mono ?_); rintro e w1 ⟨rfl, hw1⟩; (obtain ⟨H1, hb1⟩ := dr H hb hw1); clear hw1 H hb k1)
        | (go_at_call 40; (with_reducible refine (k2 _ H1).mono ?_); rintro e w2 ⟨rfl, hw2⟩; (obtain ⟨H2, hb2⟩ := dr H1 hb1 hw2); clear hw2 H1 hb1 k2)
        | (go_at_call 39; (with_reducible refine (cs _ H2).mono ?_); rintro e w3 ⟨rfl, H3, hb3⟩))
      go_roundw
      case rel => exact ⟨a, _, .inl hlt, rfl, H3, hRs, hs, hb2.trans hb3⟩
      case measure => simp [intOf]; omega
    · have el : lsr n f' i a = i := by unfold lsr; rw [if_neg hx]
      rw [el] at k2
      have hs : Hp f' n := dn_stop hu fun c h0 hc hci => by
        rcases l3 with l3 | l3
        · rcases hy : Hp.lt (f' a).k (f' i).k with _ | _
          · exact le_trans hy (l2 l3 c h0 hc hci)
          · exact absurd ⟨l3, hy⟩ hx
        · exact absurd hci (l3 c h0 hc)
      have hne : ((i : Int) == (i : Int)) = true := by simp
      clear hx el l2 l3 hu ha
      generalize hi2 : 2 * i + 1 = i1 at *
      generalize hi3 : 2 * i + 2 = i2 at *
      go_wp2_with (first
        | (go_at_call 40; (with_reducible refine k1.mono ?_); rintro e w1 ⟨rfl, hw1⟩; (obtain ⟨H1, hb1⟩ := dr H hb hw1); clear hw1 H hb k1)
        | (go_at_call 40; (with_reducible refine (k2 _ H1).mono ?_); rintro e w2 ⟨rfl, hw2⟩; (obtain ⟨H2, hb2⟩ := dr H1 hb1 hw2); clear hw2 H1 hb1 k2))
      go_end0
      exact ⟨rfl, f', H2, hR, hs, hb2⟩
end Go.Proofs.YtkpcmfgeanlcnabDoor

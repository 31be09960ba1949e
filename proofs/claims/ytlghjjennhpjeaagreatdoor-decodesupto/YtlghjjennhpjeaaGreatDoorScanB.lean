/-
  Words in their order; a tree in a list, in which no word is less than the one that it is below.
-/
import Derived.Test.YtlghjjennhpjeaaGreatDoorProg
import Derived.Test.YtlghjjennhpjeaaGreatDoorRowW
import Derived.Laws.Rows
import Derived.Laws.OwnMore
import Derived.Deep.AppendLies
import Derived.Lib.OwnKind
import Derived.Deep.Onto
import Derived.BigQuiet
import Derived.BigRegion
import Derived.WalkKit
import Derived.RowKit
import Derived.KernelRfl
import Derived.Maps.AppendAt
import Derived.Deep.RegionLaw
import Derived.WalkSpells
import Derived.WalkLawsBesides
import Derived.Deep.OwnRows
import Derived.Deep.QuietTactic
namespace Go.Hp

theorem u8_cmp (a b : UInt8) : (a < b ∧ ¬ b < a ∧ a ≠ b) ∨ (b < a ∧ ¬ a < b ∧ a ≠ b) ∨ (a = b ∧ ¬ a < b ∧ ¬ b < a) := by
  rcases Nat.lt_trichotomy a.toNat b.toNat with h | h | h
  · refine .inl ⟨UInt8.lt_iff_toNat_lt.2 h, fun h' => ?_, fun e => ?_⟩
    · have := UInt8.lt_iff_toNat_lt.1 h'; omega
    · subst e; omega
  · have e : a = b := UInt8.toNat_inj.1 h
    subst e
    exact .inr (.inr ⟨rfl, fun h' => by have := UInt8.lt_iff_toNat_lt.1 h'; omega, fun h' => by have := UInt8.lt_iff_toNat_lt.1 h'; omega⟩)
  · refine .inr (.inl ⟨UInt8.lt_iff_toNat_lt.2 h, fun h' => ?_, fun e => ?_⟩)
    · have := UInt8.lt_iff_toNat_lt.1 h'; omega
    · subst e; omega
abbrev lt (a b : List UInt8) : Bool := Op.bytesLess a b
theorem lt_irrefl : ∀ a : List UInt8, lt a a = false
  | [] => rfl
  | x :: a => by
    have h := u8_cmp x x
    simp only [lt, Op.bytesLess] at *
    have := lt_irrefl a
    simp only [lt] at this
    simp [this]
theorem lt_tri : ∀ a b : List UInt8, (lt a b = true ∧ lt b a = false ∧ a ≠ b) ∨ (lt b a = true ∧ lt a b = false ∧ a ≠ b) ∨ (a = b ∧ lt a b = false ∧ lt b a = false)
  | [], [] => .inr (.inr ⟨rfl, rfl, rfl⟩)
  | [], y :: b => .inl ⟨rfl, rfl, by simp⟩
  | x :: a, [] => .inr (.inl ⟨rfl, rfl, by simp⟩)
  | x :: a, y :: b => by
    simp only [lt, Op.bytesLess]
    rcases u8_cmp x y with ⟨h1, h2, h3⟩ | ⟨h1, h2, h3⟩ | ⟨rfl, h2, _⟩
    · exact .inl ⟨by simp [h1], by simp [h2, Ne.symm h3], by simp [h3]⟩
    · exact .inr (.inl ⟨by simp [h1], by simp [h2, h3], by simp [h3]⟩)
    · rcases lt_tri a b with ⟨g1, g2, g3⟩ | ⟨g1, g2, g3⟩ | ⟨rfl, g2, g3⟩
      · exact .inl ⟨by simp only [lt] at g1; simp [g1], by simp only [lt] at g2; simp [g2], by simp [g3]⟩
      · exact .inr (.inl ⟨by simp only [lt] at g1; simp [g1], by simp only [lt] at g2; simp [g2], by simp [g3]⟩)
      · exact .inr (.inr ⟨rfl, by simp only [lt] at g2; simp [g2], by simp only [lt] at g2; simp [g2]⟩)
theorem lt_trans : ∀ {a b c : List UInt8}, lt a b = true → lt b c = true → lt a c = true
  | _, [], _, h, _ => by simp [lt, Op.bytesLess] at h
  | _, _ :: _, [], _, h => by simp [lt, Op.bytesLess] at h
  | [], _ :: _, _ :: _, _, _ => rfl
  | x :: a, y :: b, z :: c, h1, h2 => by
    simp only [lt, Op.bytesLess, Bool.or_eq_true, decide_eq_true_eq, Bool.and_eq_true, beq_iff_eq] at h1 h2 ⊢
    rcases h1 with h1 | ⟨rfl, h1⟩
    · rcases h2 with h2 | ⟨rfl, h2⟩
      · exact .inl (UInt8.lt_iff_toNat_lt.2 (by have := UInt8.lt_iff_toNat_lt.1 h1; have := UInt8.lt_iff_toNat_lt.1 h2; omega))
      · exact .inl h1
    · rcases h2 with h2 | ⟨rfl, h2⟩
      · exact .inl h2
      · exact .inr ⟨rfl, lt_trans (a := a) (b := b) (c := c) h1 h2⟩
/-- Not behind. -/
def le (a b : List UInt8) : Prop := lt b a = false
theorem le_refl (a : List UInt8) : le a a := lt_irrefl a
theorem le_of_lt {a b : List UInt8} (h : lt a b = true) : le a b := by
  rcases lt_tri a b with ⟨_, h2, _⟩ | ⟨_, h2, _⟩ | ⟨_, h2, _⟩
  · exact h2
  · rw [h] at h2; cases h2
  · rw [h] at h2; cases h2
theorem le_of_not {a b : List UInt8} (h : lt a b = false) : le b a := h
theorem le_trans {a b c : List UInt8} (h1 : le a b) (h2 : le b c) : le a c := by
  unfold le at *
  rcases lt_tri a c with ⟨_, h, _⟩ | ⟨h, _, _⟩ | ⟨_, _, h⟩
  · exact h
  · exfalso
    rcases lt_tri a b with ⟨g, _, _⟩ | ⟨g, _, _⟩ | ⟨rfl, _, _⟩
    · have := lt_trans h g
      rw [h2] at this
      cases this
    · rw [h1] at g; cases g
    · rw [h2] at h; cases h
  · exact h
theorem lt_of_le_ne {a b : List UInt8} (h : le a b) (hn : a ≠ b) : lt a b = true := by
  rcases lt_tri a b with ⟨g, _, _⟩ | ⟨g, _, _⟩ | ⟨e, _, _⟩
  · exact g
  · unfold le at h; rw [h] at g; cases g
  · exact absurd e hn
/-- The program's 'not behind'. -/
theorem notAfter_iff (a b : List UInt8) : (Op.bytesLess a b || a == b) = true ↔ le a b := by
  rcases lt_tri a b with ⟨g1, g2, _⟩ | ⟨g1, g2, g3⟩ | ⟨rfl, g2, g3⟩
  · simp only [lt] at g1 g2; simp [le, g1, g2]
  · simp only [lt] at g1 g2; simp [le, g1, g2, g3]
  · simp only [lt] at g2; simp [le, g2]

/-- A thing with its word. -/
structure Ent where
  k : List UInt8
  a : Option Addr
  l : Nat
  c : Nat
def Ent.d (e : Ent) : Value := .slice e.a e.l e.c

/-- Put in another order. -/
def Rearr (n : Nat) (f g : Nat → Ent) : Prop := ∃ σ τ : Nat → Nat, (∀ i, i < n → σ i < n ∧ τ i < n ∧ τ (σ i) = i ∧ σ (τ i) = i) ∧ ∀ i, i < n → g i = f (σ i)
theorem Rearr.refl (n : Nat) (f : Nat → Ent) : Rearr n f f := ⟨id, id, fun _ h => ⟨h, h, rfl, rfl⟩, fun _ _ => rfl⟩
theorem Rearr.symm {n : Nat} {f g : Nat → Ent} (a : Rearr n f g) : Rearr n g f := by
  obtain ⟨σ, τ, s, t⟩ := a
  exact ⟨τ, σ, fun i hi => ⟨(s i hi).2.1, (s i hi).1, (s i hi).2.2.2, (s i hi).2.2.1⟩, fun i hi => by rw [t _ (s i hi).2.1, (s i hi).2.2.2]⟩
theorem Rearr.trans {n : Nat} {f g h : Nat → Ent} (a : Rearr n f g) (b : Rearr n g h) : Rearr n f h := by
  obtain ⟨σ, σ', s1, s2⟩ := a
  obtain ⟨τ, τ', t1, t2⟩ := b
  refine ⟨fun i => σ (τ i), fun i => τ' (σ' i), fun i hi => ?_, fun i hi => by rw [t2 i hi, s2 _ (t1 i hi).1]⟩
  have a1 := t1 i hi
  have a2 := s1 (τ i) a1.1
  have b1 := s1 i hi
  have b2 := t1 (σ' i) b1.2.1
  exact ⟨a2.1, b2.2.1, by show τ' (σ' (σ (τ i))) = i; rw [a2.2.2.1, a1.2.2.1], by show σ (τ (τ' (σ' i))) = i; rw [b2.2.2.2, b1.2.2.2]⟩
theorem Rearr.congr {n : Nat} {f g h : Nat → Ent} (a : Rearr n f g) (b : ∀ i, i < n → g i = h i) : Rearr n f h := by
  obtain ⟨σ, τ, s1, s2⟩ := a
  exact ⟨σ, τ, s1, fun i hi => (b i hi).symm.trans (s2 i hi)⟩
theorem Rearr.from {n : Nat} {f g : Nat → Ent} (a : Rearr n f g) {i : Nat} (hi : i < n) : ∃ j, j < n ∧ g i = f j := by
  obtain ⟨σ, τ, s1, s2⟩ := a
  exact ⟨σ i, (s1 i hi).1, s2 i hi⟩
/-- Two that were apart are apart. -/
theorem Rearr.two {n : Nat} {f g : Nat → Ent} (a : Rearr n f g) {i j : Nat} (hi : i < n) (hj : j < n) (hij : i ≠ j) : ∃ i' j', i' < n ∧ j' < n ∧ i' ≠ j' ∧ g i = f i' ∧ g j = f j' := by
  obtain ⟨σ, τ, s1, s2⟩ := a
  exact ⟨σ i, σ j, (s1 i hi).1, (s1 j hj).1, fun e => hij (by rw [← (s1 i hi).2.2.1, e, (s1 j hj).2.2.1]), s2 i hi, s2 j hj⟩
def swp (f : Nat → Ent) (i j : Nat) : Nat → Ent := fun x => if x = i then f j else if x = j then f i else f x
theorem Rearr.swp {n i j : Nat} (f : Nat → Ent) (hi : i < n) (hj : j < n) : Rearr n f (swp f i j) := by
  have key : ∀ x, x < n → (if x = i then j else if x = j then i else x) < n ∧ (if (if x = i then j else if x = j then i else x) = i then j else if (if x = i then j else if x = j then i else x) = j then i else (if x = i then j else if x = j then i else x)) = x := fun x hx => by
    by_cases e1 : x = i
    · rw [if_pos e1]
      by_cases e2 : j = i
      · rw [if_pos e2]; exact ⟨hj, by omega⟩
      · rw [if_neg e2, if_pos rfl]; exact ⟨hj, e1.symm⟩
    · rw [if_neg e1]
      by_cases e2 : x = j
      · rw [if_pos e2, if_pos rfl]; exact ⟨hi, e2.symm⟩
      · rw [if_neg e2, if_neg e1, if_neg e2]; exact ⟨hx, rfl⟩
  refine ⟨fun x => if x = i then j else if x = j then i else x, fun x => if x = i then j else if x = j then i else x, fun x hx => ⟨(key x hx).1, (key x hx).1, (key x hx).2, (key x hx).2⟩, fun x hx => ?_⟩
  unfold Hp.swp
  dsimp only
  split
  · rfl
  · split <;> rfl
/-- One more at the end. -/
theorem Rearr.snoc {n : Nat} {f g : Nat → Ent} (a : Rearr n f g) {f' g' : Nat → Ent} (hf : ∀ i, i < n → f' i = f i) (hg : ∀ i, i < n → g' i = g i) (he : f' n = g' n) : Rearr (n + 1) f' g' := by
  obtain ⟨σ, τ, s1, s2⟩ := a
  refine ⟨fun i => if i = n then n else σ i, fun i => if i = n then n else τ i, fun i hi => ?_, fun i hi => ?_⟩
  · by_cases e : i = n
    · simp only [if_pos e, if_true]; exact ⟨by omega, by omega, e.symm, e.symm⟩
    · have a1 := s1 i (by omega)
      simp only [if_neg e, if_neg (show ¬ σ i = n by omega), if_neg (show ¬ τ i = n by omega)]
      exact ⟨by omega, by omega, a1.2.2.1, a1.2.2.2⟩
  · dsimp only; split
    · rename_i e; rw [e, he]
    · rw [hg i (by omega), s2 i (by omega), hf _ (s1 i (by omega)).1]
/-- What is behind put in another order. -/
theorem Rearr.tail {n m k : Nat} {o g g' : Nat → Ent} (a : Rearr k g g') (h : m + k = n) : Rearr n (fun x => if x < m then o x else g (x - m)) (fun x => if x < m then o x else g' (x - m)) := by
  obtain ⟨σ, τ, s1, s2⟩ := a
  refine ⟨fun x => if x < m then x else m + σ (x - m), fun x => if x < m then x else m + τ (x - m), fun x hx => ?_, fun x hx => ?_⟩
  · by_cases e : x < m
    · simp only [if_pos e]; exact ⟨hx, hx, trivial, trivial⟩
    · have a1 := s1 (x - m) (by omega)
      simp only [if_neg e, if_neg (show ¬ m + σ (x - m) < m by omega), if_neg (show ¬ m + τ (x - m) < m by omega), Nat.add_sub_cancel_left, a1.2.2.1, a1.2.2.2]
      exact ⟨by omega, by omega, by omega, by omega⟩
  · by_cases e : x < m
    · simp only [if_pos e]
    · simp only [if_neg e, if_neg (show ¬ m + σ (x - m) < m by omega), Nat.add_sub_cancel_left]
      exact s2 _ (by omega)
/-- The first of what is behind comes to the fore; the last takes its place. -/
theorem Rearr.popped {n m k : Nat} {o g : Nat → Ent} (h : m + (k + 1) = n) : Rearr n (fun x => if x < m then o x else g (x - m)) (fun x => if x < m + 1 then (if x = m then g 0 else o x) else (if x - (m + 1) = 0 then g k else g (x - (m + 1)))) := by
  refine ⟨fun x => if x ≤ m then x else if x = m + 1 then n - 1 else x - 1, fun x => if x ≤ m then x else if x = n - 1 then m + 1 else x + 1, fun x hx => ?_, fun x hx => ?_⟩
  · by_cases e : x ≤ m
    · simp only [if_pos e]; exact ⟨hx, hx, trivial, trivial⟩
    · by_cases e2 : x = m + 1
      · simp only [if_neg e, if_pos e2, if_neg (show ¬ n - 1 ≤ m by omega), if_true]
        by_cases e3 : x = n - 1
        · simp only [if_pos e3, if_neg (show ¬ m + 1 ≤ m by omega), if_true]; exact ⟨by omega, by omega, by omega, by omega⟩
        · simp only [if_neg e3, if_neg (show ¬ x + 1 ≤ m by omega), if_neg (show ¬ x + 1 = m + 1 by omega)]; exact ⟨by omega, by omega, by omega, by omega⟩
      · simp only [if_neg e, if_neg e2, if_neg (show ¬ x - 1 ≤ m by omega), if_neg (show ¬ x - 1 = n - 1 by omega)]
        by_cases e3 : x = n - 1
        · simp only [if_pos e3, if_neg (show ¬ m + 1 ≤ m by omega), if_true]; exact ⟨by omega, by omega, by omega, by omega⟩
        · simp only [if_neg e3, if_neg (show ¬ x + 1 ≤ m by omega), if_neg (show ¬ x + 1 = m + 1 by omega)]; exact ⟨by omega, by omega, by omega, by omega⟩
  · by_cases e : x ≤ m
    · simp only [if_pos e, if_pos (show x < m + 1 by omega)]
      by_cases e2 : x = m
      · rw [if_pos e2, if_neg (by omega), e2, Nat.sub_self]
      · rw [if_neg e2, if_pos (by omega)]
    · by_cases e2 : x = m + 1
      · simp only [if_neg e, if_pos e2, if_neg (show ¬ x < m + 1 by omega), if_neg (show ¬ n - 1 < m by omega), if_pos (show x - (m + 1) = 0 by omega)]
        congr 1
        omega
      · simp only [if_neg e, if_neg e2, if_neg (show ¬ x < m + 1 by omega), if_neg (show ¬ x - 1 < m by omega), if_neg (show ¬ x - (m + 1) = 0 by omega)]
        congr 1
        omega

/-- No word is less than the one that it is below. -/
def Hp (f : Nat → Ent) (n : Nat) : Prop := ∀ c, 0 < c → c < n → le (f ((c - 1) / 2)).k (f c).k
def HpUp (f : Nat → Ent) (n i : Nat) : Prop := (∀ c, 0 < c → c < n → c ≠ i → le (f ((c - 1) / 2)).k (f c).k) ∧ ∀ c, 0 < c → c < n → (c - 1) / 2 = i → 0 < i → le (f ((i - 1) / 2)).k (f c).k
def HpDn (f : Nat → Ent) (n i : Nat) : Prop := (∀ c, 0 < c → c < n → (c - 1) / 2 ≠ i → le (f ((c - 1) / 2)).k (f c).k) ∧ ∀ c, 0 < c → c < n → (c - 1) / 2 = i → 0 < i → le (f ((i - 1) / 2)).k (f c).k
theorem up_stop {f : Nat → Ent} {n i : Nat} (h : HpUp f n i) (hs : 0 < i → le (f ((i - 1) / 2)).k (f i).k) : Hp f n := fun c h0 hc => by
  by_cases e : c = i
  · subst e; exact hs h0
  · exact h.1 c h0 hc e
theorem up_step {f : Nat → Ent} {n i : Nat} (h : HpUp f n i) (hi0 : 0 < i) (hi : i < n) (hl : lt (f i).k (f ((i - 1) / 2)).k = true) : HpUp (swp f ((i - 1) / 2) i) n ((i - 1) / 2) := by
  have hp : (i - 1) / 2 < i := by omega
  generalize hpi : (i - 1) / 2 = p at *
  refine ⟨fun c h0 hc hne => ?_, fun c h0 hc hcp hp0 => ?_⟩
  · by_cases e : c = i
    · subst e
      rw [hpi]
      unfold swp
      rw [if_pos rfl, if_neg (by omega), if_pos rfl]
      exact le_of_lt hl
    · by_cases e2 : (c - 1) / 2 = i
      · unfold swp
        rw [e2, if_neg (by omega), if_pos rfl, if_neg hne, if_neg e]
        have := h.2 c h0 hc e2 hi0
        rw [hpi] at this
        exact this
      · by_cases e3 : (c - 1) / 2 = p
        · unfold swp
          rw [e3, if_pos rfl, if_neg hne, if_neg e]
          have := h.1 c h0 hc e
          rw [e3] at this
          exact le_trans (le_of_lt hl) this
        · unfold swp
          rw [if_neg e3, if_neg e2, if_neg hne, if_neg e]
          exact h.1 c h0 hc e
  · have hq : (p - 1) / 2 < p := by omega
    have hpp := h.1 p hp0 (by omega) (by omega)
    unfold swp
    rw [if_neg (show ¬ (p - 1) / 2 = p by omega), if_neg (show ¬ (p - 1) / 2 = i by omega), if_neg (show ¬ c = p by omega)]
    by_cases e : c = i
    · rw [if_pos e]
      exact hpp
    · rw [if_neg e]
      have := h.1 c h0 hc e
      rw [hcp] at this
      exact le_trans hpp this
theorem dn_stop {f : Nat → Ent} {n i : Nat} (h : HpDn f n i) (hs : ∀ c, 0 < c → c < n → (c - 1) / 2 = i → le (f i).k (f c).k) : Hp f n := fun c h0 hc => by
  by_cases e : (c - 1) / 2 = i
  · rw [e]; exact hs c h0 hc e
  · exact h.1 c h0 hc e
theorem dn_step {f : Nat → Ent} {n i c : Nat} (h : HpDn f n i) (hc0 : 0 < c) (hc : c < n) (hci : (c - 1) / 2 = i) (hl : lt (f c).k (f i).k = true) (hm : ∀ c', 0 < c' → c' < n → (c' - 1) / 2 = i → le (f c).k (f c').k) : HpDn (swp f c i) n c := by
  have hic : i < c := by omega
  refine ⟨fun x h0 hx hne => ?_, fun x h0 hx hxc _ => ?_⟩
  · by_cases e : (x - 1) / 2 = i
    · unfold swp
      rw [e, if_neg (by omega), if_pos rfl]
      by_cases e2 : x = c
      · rw [if_pos e2]
        exact le_of_lt hl
      · rw [if_neg e2, if_neg (by omega)]
        exact hm x h0 hx e
    · unfold swp
      rw [if_neg hne, if_neg e]
      by_cases e2 : x = c
      · subst e2; exact absurd hci e
      · rw [if_neg e2]
        by_cases e3 : x = i
        · subst e3
          rw [if_pos rfl]
          exact h.2 c hc0 hc hci h0
        · rw [if_neg e3]
          exact h.1 x h0 hx e
  · unfold swp
    rw [hci, if_neg (show ¬ i = c by omega), if_pos rfl, if_neg (show ¬ x = c by omega), if_neg (show ¬ x = i by omega)]
    have := h.1 x h0 hx (by omega)
    rw [hxc] at this
    exact this
theorem hp_min {f : Nat → Ent} {n : Nat} (h : Hp f n) : ∀ i, i < n → le (f 0).k (f i).k := by
  intro i
  induction i using Nat.strongRecOn with
  | _ i ih =>
    intro hi
    rcases Nat.eq_zero_or_pos i with rfl | h0
    · exact le_refl _
    · exact le_trans (ih ((i - 1) / 2) (by omega) (by omega)) (h i h0 hi)
end Go.Hp

/-
  The program's heap in memory: which of two places has the lesser word; two places changed: run alone.
-/
namespace Go.Proofs.YtlghjjennhpjeaaGreatDoor
open Go.RowKit Go.Deep Go.Hp

def strV (k : List UInt8) : Value := .string ⟨k.toArray⟩
def entC (e : Ent) : List Value := [strV e.k, strV e.k, e.d]
def entL (n : Nat) (f : Nat → Ent) : List Value := (List.range n).flatMap fun i => entC (f i)
theorem entL_length (n : Nat) (f : Nat → Ent) : (entL n f).length = n * 3 := by
  induction n with
  | zero => rfl
  | succ n ih =>
    unfold entL at *
    rw [List.range_succ, List.flatMap_append, List.length_append, ih]
    simp [entC]
    omega
theorem entL_succ (n : Nat) (f : Nat → Ent) : entL (n + 1) f = entL n f ++ entC (f n) := by
  unfold entL
  rw [List.range_succ, List.flatMap_append]
  simp
theorem entL_get (n : Nat) (f : Nat → Ent) (i p : Nat) (hi : i < n) (hp : p < 3) : (entL n f)[i * 3 + p]? = (entC (f i))[p]? := by
  induction n with
  | zero => omega
  | succ n ih =>
    rw [entL_succ]
    by_cases e : i = n
    · subst e
      rw [List.getElem?_append_right (by rw [entL_length]; omega), entL_length, show i * 3 + p - i * 3 = p by omega]
    · rw [List.getElem?_append_left (by rw [entL_length]; omega), ih (by omega)]
theorem entL_congr {n : Nat} {f g : Nat → Ent} (h : ∀ i, i < n → f i = g i) : entL n f = entL n g := by
  induction n with
  | zero => rfl
  | succ n ih => rw [entL_succ, entL_succ, ih fun i hi => h i (by omega), h n (by omega)]
theorem entL_set (n : Nat) (f : Nat → Ent) (i : Nat) (hi : i < n) (e : Ent) : (((entL n f).set (i * 3) (strV e.k)).set (i * 3 + 1) (strV e.k)).set (i * 3 + 2) e.d = entL n (fun x => if x = i then e else f x) := by
  apply List.ext_getElem?
  intro m
  by_cases hm : m < n * 3
  · have hq : m = m / 3 * 3 + m % 3 := by omega
    have hq3 : m % 3 < 3 := by omega
    generalize m / 3 = q at hq
    generalize m % 3 = p at hq hq3
    subst hq
    rw [entL_get n _ q p (by omega) hq3]
    have hold := entL_get n f q p (by omega) hq3
    simp only [List.getElem?_set, List.length_set, entL_length]
    by_cases e1 : q = i
    · subst e1
      rw [if_pos rfl]
      have : p = 0 ∨ p = 1 ∨ p = 2 := by omega
      rcases this with rfl | rfl | rfl
      · rw [if_neg (by omega), if_neg (by omega), if_pos (by omega), if_pos (by omega)]; rfl
      · rw [if_neg (by omega), if_pos (by omega), if_pos (by omega)]; rfl
      · rw [if_pos (by omega), if_pos (by omega)]; rfl
    · rw [if_neg (by omega), if_neg (by omega), if_neg (by omega), hold, if_neg e1]
  · rw [List.getElem?_eq_none (by simp [entL_length]; omega), List.getElem?_eq_none (by rw [entL_length]; omega)]

/-- All stands but one block. -/
structure Bt (o : Option Nat) (w w' : World) : Prop where
  os : w'.os = w.os
  tape : w'.tape = w.tape
  output : w'.output = w.output
  size : w.heap.size ≤ w'.heap.size
  block : ∀ b, b < w.heap.size → some b ≠ o → w'.heap[b]? = w.heap[b]?
theorem Bt.refl (o : Option Nat) (w : World) : Bt o w w := ⟨rfl, rfl, rfl, Nat.le_refl _, fun _ _ _ => rfl⟩
theorem Bt.trans {o : Option Nat} {a b c : World} (h : Bt o a b) (k : Bt o b c) : Bt o a c := ⟨k.os.trans h.os, k.tape.trans h.tape, k.output.trans h.output, Nat.le_trans h.size k.size, fun x hx hn => (k.block x (Nat.lt_of_lt_of_le hx h.size) hn).trans (h.block x hx hn)⟩
theorem Bt.drew {o : Option Nat} {a w : World} (h : Bt o a w) (n : Nat) : Bt o a (w.drewN n) := ⟨h.os, h.tape, h.output, h.size, h.block⟩
theorem Bt.set {o : Option Nat} {a w : World} (h : Bt o a w) {g p : Nat} (hg : o = some g) (v : Value) : Bt o a (w.setCell ⟨g, p, none⟩ v) :=
  ⟨h.os, h.tape, h.output, by simpa using h.size, fun b hb hn => (Below.heap_setCell _ _ _ _ (fun e : b = g => hn (by rw [e, hg]))).trans (h.block b hb hn)⟩
theorem Bt.below {o : Option Nat} {w w' : World} {B : Nat} (h : Bt o w w') (hB : B ≤ w.heap.size) (ho : ∀ g, o = some g → B ≤ g) : Below B w w' :=
  ⟨h.os, h.tape, h.output, h.size, fun b hb => h.block b (by omega) (fun e => by have := ho b e.symm; omega)⟩

def lsr (n : Nat) (f : Nat → Ent) (i j : Nat) : Nat := if j < n ∧ Hp.lt (f j).k (f i).k = true then j else i
end Go.Proofs.YtlghjjennhpjeaaGreatDoor

/-
  The program's heap: a thing is put in, the least is taken out: run alone.
-/
namespace Go.Proofs.YtlghjjennhpjeaaGreatDoor
open Go.RowKit Go.Deep Go.Hp

theorem lsr_two (n : Nat) (f : Nat → Ent) (i : Nat) : (lsr n f (2 * i + 1) (2 * i + 2) = 2 * i + 1 ∨ lsr n f (2 * i + 1) (2 * i + 2) = 2 * i + 2) ∧ ((lsr n f (2 * i + 1) (2 * i + 2)) < n → ∀ c, 0 < c → c < n → (c - 1) / 2 = i → le (f (lsr n f (2 * i + 1) (2 * i + 2))).k (f c).k) ∧ (lsr n f (2 * i + 1) (2 * i + 2) < n ∨ ∀ c, 0 < c → c < n → (c - 1) / 2 ≠ i) := by
  have hc : ∀ c, 0 < c → (c - 1) / 2 = i → c = 2 * i + 1 ∨ c = 2 * i + 2 := fun c h0 h => by omega
  by_cases h : 2 * i + 2 < n ∧ Hp.lt (f (2 * i + 2)).k (f (2 * i + 1)).k = true
  · have e : lsr n f (2 * i + 1) (2 * i + 2) = 2 * i + 2 := by unfold lsr; rw [if_pos h]
    rw [e]
    refine ⟨.inr rfl, fun _ c h0 hcn hci => ?_, .inl h.1⟩
    rcases hc c h0 hci with rfl | rfl
    · exact le_of_lt h.2
    · exact le_refl _
  · have e : lsr n f (2 * i + 1) (2 * i + 2) = 2 * i + 1 := by unfold lsr; rw [if_neg h]
    rw [e]
    refine ⟨.inl rfl, fun _ c h0 hcn hci => ?_, ?_⟩
    · rcases hc c h0 hci with rfl | rfl
      · exact le_refl _
      · rcases hx : Hp.lt (f (2 * i + 2)).k (f (2 * i + 1)).k with _ | _
        · exact hx
        · exact absurd ⟨hcn, hx⟩ h
    · by_cases hn : 2 * i + 1 < n
      · exact .inl hn
      · refine .inr fun c h0 hcn hci => ?_
        rcases hc c h0 hci with rfl | rfl <;> omega

end Go.Proofs.YtlghjjennhpjeaaGreatDoor

/-
  The program's heap: Push, Len, Pop: run alone.
-/
namespace Go.Proofs.YtlghjjennhpjeaaGreatDoor
open Go.RowKit Go.Deep Go.Hp

theorem entC_one (e : Ent) : ∀ u ∈ entC e, u.oneCell' = true := by
  intro u hu
  simp [entC] at hu
  rcases hu with rfl | rfl
  · rfl
  · rfl
theorem cell_three_new (w : World) (x y z : Value) (t : TypeId) : ∀ j u, [x, y, z][j]? = some u → (w.alloc (.cells #[x, y, z] t)).cell? ((⟨w.heap.size, 0, none⟩ : Addr).add j) = some u := by
  intro j u hj
  match j, hj with
  | 0, hj => simp at hj; subst hj; simp [Addr.add]
  | 1, hj => simp at hj; subst hj; simp [Addr.add]
  | 2, hj => simp at hj; subst hj; simp [Addr.add]
theorem step_app_at {P : Program} {ops : Array Oper} {o : Oper} {a : Act} {w : World} {K : Act → World → Prop} {Q : Exit → Act → World → Prop} {E : Prop}
    (hg : o.guard = none) (s x : Operand) (t : TypeId) (hop : o.op = Op.call { callee := Callee.builtin Builtin.append, args := #[s, x], argTypes := #[t, t] })
    (base : Nat) (e : TypeId) (i : TypeInfo) (z : Value) (size bytes : Nat) (h1 : P.underlying t = some (.slice e)) (h2 : P.info? e = some i) (h3 : i.zero = some z) (h4 : i.size = size) (h5 : i.bytes = bytes) (h6 : z.cells.size = size) (h7 : 0 < size)
    (v : Value) (n : Nat) (xs : List Value) (hs : a.eval s = v) (hown : w.ownsRow base e size v n xs)
    (ad : Addr) (m c : Nat) (news : List Value) (hx : a.eval x = .slice (some ad) m c) (hn : news.length = m * size) (hc : ∀ j u, news[j]? = some u → w.cell? (ad.add j) = some u) (h1c : ∀ u ∈ news, u.oneCell' = true)
    (b1 : n + m ≤ maxLen) (b2 : (n + m) * bytes ≤ 140737488355328) (hbase : base ≤ w.heap.size)
    (hK : ∀ v' w', w'.ownsRow base e size v' (n + m) (xs ++ news) → w.grownBy w' v.ownBlock → (v'.ownBlock = v.ownBlock ∨ v'.ownBlock = some w.heap.size) → K (a.put o.dst v') w') :
    if Region.wanted o (yielded ops a.tmps) = true then Oper.wp P o a w K Q else E := by
  have hw : Region.wanted o (yielded ops a.tmps) = true := by simp [Region.wanted, hg]
  rw [if_pos hw]
  obtain ⟨v', w', hr, r1, r2, _, r4⟩ := run_append_own_at (P := P) w base t o.type e i z size bytes h1 h2 h3 h4 h5 h6 h7 v n xs hown ad m c news hn hc h1c b1 b2 hbase
  unfold Oper.wp
  simp [execOp, hop, resolve, invoke, builtin, hs, hx, hr, Result.andThen]
  exact hK v' w' r1 r2 r4

theorem up_start {f : Nat → Ent} {n : Nat} {e : Ent} (h : Hp f n) : HpUp (fun x => if x = n then e else f x) (n + 1) n :=
  ⟨fun c h0 hc hne => by
    dsimp only
    rw [if_neg (show ¬ (c - 1) / 2 = n by omega), if_neg hne]
    exact h c h0 (by omega), fun c h0 hc hcn _ => by omega⟩

end Go.Proofs.YtlghjjennhpjeaaGreatDoor

/-
  The program's heap: Len, Pop: run alone.
-/
namespace Go.Proofs.YtlghjjennhpjeaaGreatDoor
open Go.RowKit Go.Deep Go.Hp

def popF (n : Nat) (f : Nat → Ent) (x : Nat) : Ent := if x = 0 then f n else f x
theorem pop_dn {n : Nat} {f : Nat → Ent} (h : Hp f (n + 1)) : HpDn (popF n f) n 0 :=
  ⟨fun c h0 hc hne => by
    unfold popF
    rw [if_neg hne, if_neg (by omega)]
    exact h c h0 (by omega), fun c _ _ _ h0 => absurd h0 (by omega)⟩

end Go.Proofs.YtlghjjennhpjeaaGreatDoor

/-
  The sum of 64 bits, in plain numbers: bit by bit and by four bits at a time are one.
-/
namespace Go.Proofs.YtlghjjennhpjeaaGreatDoor

def crcC : Nat := 14514072000185962306
def crcAll : Nat := 18446744073709551615

/-- one bit -/
def crc1 (v : Nat) : Nat := if v % 2 = 1 then (v / 2) ^^^ crcC else v / 2
/-- n bits -/
def crcN : Nat → Nat → Nat
  | 0, v => v
  | n + 1, v => crcN n (crc1 v)
/-- a byte -/
def crcB (v b : Nat) : Nat := crcN 8 (v ^^^ b)
/-- bytes -/
def crcL (v : Nat) : List Nat → Nat
  | [] => v
  | b :: l => crcL (crcB v b) l
/-- the sum -/
def crc (l : List Nat) : Nat := crcAll - crcL crcAll l

def crcTab : List Nat := [0, 9051005139383707209, 18102010278767414418, 9704381199536204507, 7257036000092981153, 1814259000023245288, 11493583972846619443, 16292555063049989498, 14514072000185962306, 13040162471224305931, 3628518000046490576, 5746791986423309721, 12527462061959317731, 15006518869663149738, 6263731030979658865, 3131865515489829432]
def crc4 (v : Nat) : Nat := (v / 16) ^^^ crcTab.getD (v % 16) 0

theorem crc_xor2 (b d : Nat) : (b ^^^ d) % 2 = if b % 2 = d % 2 then 0 else 1 := by
  have h : (b ^^^ d) % 2 ^ 1 = (b % 2 ^ 1) ^^^ (d % 2 ^ 1) := Nat.xor_mod_two_pow
  rw [Nat.pow_one] at h
  rw [h]
  have h1 : b % 2 = 0 ∨ b % 2 = 1 := by omega
  have h2 : d % 2 = 0 ∨ d % 2 = 1 := by omega
  rcases h1 with h1 | h1 <;> rcases h2 with h2 | h2 <;> rw [h1, h2] <;> rfl
theorem crc_div2 (b d : Nat) : (b ^^^ d) / 2 = (b / 2) ^^^ (d / 2) := by
  have := Nat.shiftRight_xor_distrib (a := b) (b := d) (i := 1)
  simpa [Nat.shiftRight_eq_div_pow] using this
theorem crc_xor4 (a b c d : Nat) : (a ^^^ b) ^^^ (c ^^^ d) = (a ^^^ c) ^^^ (b ^^^ d) := by
  rw [Nat.xor_assoc, Nat.xor_assoc]; congr 1
  rw [← Nat.xor_assoc, Nat.xor_comm b, Nat.xor_assoc]

theorem crc1_xor (a b : Nat) : crc1 (a ^^^ b) = crc1 a ^^^ crc1 b := by
  unfold crc1
  generalize crcC = C
  rw [crc_xor2, crc_div2]
  have h1 : a % 2 = 0 ∨ a % 2 = 1 := by omega
  have h2 : b % 2 = 0 ∨ b % 2 = 1 := by omega
  rcases h1 with h1 | h1 <;> rcases h2 with h2 | h2 <;> simp [h1, h2]
  · rw [Nat.xor_assoc]
  · rw [Nat.xor_assoc, Nat.xor_assoc, Nat.xor_comm C]
  · rw [crc_xor4, Nat.xor_self, Nat.xor_zero]
theorem crcN_xor : ∀ n a b, crcN n (a ^^^ b) = crcN n a ^^^ crcN n b
  | 0, _, _ => rfl
  | n + 1, a, b => by rw [crcN, crcN, crcN, crc1_xor, crcN_xor n]
theorem crcN_add : ∀ n m v, crcN (n + m) v = crcN m (crcN n v)
  | 0, m, v => by simp [crcN]
  | n + 1, m, v => by rw [Nat.succ_add, crcN, crcN, crcN_add n]
theorem crc1_even (v : Nat) : crc1 (2 * v) = v := by unfold crc1; rw [if_neg (by omega)]; omega
theorem crcN4_16 (h : Nat) : crcN 4 (16 * h) = h := by
  have e : 16 * h = 2 * (2 * (2 * (2 * h))) := by omega
  rw [e]; simp only [crcN, crc1_even]
theorem crcTab_ok : ∀ l : Fin 16, crcTab.getD l.val 0 = crcN 4 l.val := by decide +kernel
theorem split16 (v : Nat) : v = (16 * (v / 16)) ^^^ (v % 16) := by
  have h := Nat.two_pow_add_eq_or_of_lt (i := 4) (b := v % 16) (by omega) (v / 16)
  have e : v = 2 ^ 4 * (v / 16) + v % 16 := by omega
  have h2 : 2 ^ 4 * (v / 16) ||| v % 16 = (2 ^ 4 * (v / 16)) ^^^ (v % 16) := by
    apply Nat.eq_of_testBit_eq
    intro i
    rw [Nat.testBit_or, Nat.testBit_xor, Nat.testBit_two_pow_mul, show v % 16 = v % 2 ^ 4 from rfl, Nat.testBit_mod_two_pow]
    by_cases hi : i < 4
    · simp [hi, Nat.not_le.2 hi]
    · simp [hi, Nat.not_lt.1 hi]
  rw [h2] at h
  calc v = 2 ^ 4 * (v / 16) + v % 16 := e
    _ = _ := h
/-- Four bits at a time. -/
theorem crc4_eq (v : Nat) : crc4 v = crcN 4 v := by
  have e := split16 v
  have h : crcN 4 v = crcN 4 (16 * (v / 16)) ^^^ crcN 4 (v % 16) := by rw [← crcN_xor, ← e]
  rw [h, crcN4_16, crc4, crcTab_ok ⟨v % 16, Nat.mod_lt _ (by omega)⟩]
theorem crcB_eq (v b : Nat) : crc4 (crc4 (v ^^^ b)) = crcB v b := by
  rw [crc4_eq, crc4_eq, crcB, ← crcN_add]

theorem crcC_lt : crcC < 2 ^ 64 := by decide
theorem crc1_lt {v : Nat} (h : v < 2 ^ 64) : crc1 v < 2 ^ 64 := by
  unfold crc1
  split
  · exact Nat.xor_lt_two_pow (by omega) crcC_lt
  · omega
theorem crcN_lt : ∀ n {v : Nat}, v < 2 ^ 64 → crcN n v < 2 ^ 64
  | 0, _, h => h
  | n + 1, _, h => by rw [crcN]; exact crcN_lt n (crc1_lt h)
theorem crcB_lt {v b : Nat} (h : v < 2 ^ 64) (hb : b < 256) : crcB v b < 2 ^ 64 := crcN_lt 8 (Nat.xor_lt_two_pow h (by omega))
theorem crcL_lt : ∀ (l : List Nat) {v : Nat}, v < 2 ^ 64 → (∀ b ∈ l, b < 256) → crcL v l < 2 ^ 64
  | [], _, h, _ => h
  | b :: l, _, h, hl => crcL_lt l (crcB_lt h (hl b (List.mem_cons_self ..))) (fun c hc => hl c (List.mem_cons_of_mem _ hc))
theorem crc4_lt {v : Nat} (h : v < 2 ^ 64) : crc4 v < 2 ^ 64 := by rw [crc4_eq]; exact crcN_lt 4 h
theorem crcAll_lt : crcAll < 2 ^ 64 := by decide
theorem crc_lt (l : List Nat) : crc l < 2 ^ 64 := Nat.lt_of_le_of_lt (Nat.sub_le _ _) crcAll_lt
theorem crcTab_lt : ∀ l : Fin 16, crcTab.getD l.val 0 < 2 ^ 64 := by decide +kernel
end Go.Proofs.YtlghjjennhpjeaaGreatDoor

/-
  What the document's call that sums bytes answers.
-/
namespace Go.Proofs.YtlghjjennhpjeaaGreatDoor
open Go.RowKit

theorem ret_u64 {a b : Int} (h : a = b) : Ending.returned (.int .u64 a) = .returned (.int .u64 b) := by rw [h]
theorem ofInt_u64' (a : Nat) (ha : a < 2 ^ 64) : (BitVec.ofInt 64 (a : Int)).toNat = a := by
  rw [BitVec.ofInt_natCast, BitVec.toNat_ofNat]; exact Nat.mod_eq_of_lt ha
theorem wrap_u64_lt (a : Nat) (ha : a < 2 ^ 64) : IntKind.u64.wrap (a : Int) = (a : Int) := by
  simp [IntKind.wrap, IntKind.bits, IntKind.signed]; omega
theorem u64_xor_lt {a b : Nat} (ha : a < 2 ^ 64) (hb : b < 2 ^ 64) : bits .xor .u64 (a : Int) (b : Int) = ((a ^^^ b : Nat) : Int) := by
  show IntKind.u64.wrap ((BitVec.ofInt 64 (a : Int) ^^^ BitVec.ofInt 64 (b : Int)).toNat : Int) = _
  rw [BitVec.toNat_xor, ofInt_u64' a ha, ofInt_u64' b hb, wrap_u64_lt _ (Nat.xor_lt_two_pow ha hb)]
theorem u64_and15 {a : Nat} (ha : a < 2 ^ 64) : bits .and .u64 (a : Int) 15 = ((a % 16 : Nat) : Int) := by
  show IntKind.u64.wrap ((BitVec.ofInt 64 (a : Int) &&& BitVec.ofInt 64 ((15 : Nat) : Int)).toNat : Int) = _
  have h := Nat.and_two_pow_sub_one_eq_mod a 4
  have h15 : a &&& 15 = a % 16 := h
  rw [BitVec.toNat_and, ofInt_u64' a ha, ofInt_u64' 15 (by omega), h15, wrap_u64_lt _ (by omega)]
theorem u64_shr4 {a : Nat} : ((a : Nat) : Int) / 16 = ((a / 16 : Nat) : Int) := by omega
theorem all_xor {s : Nat} (hs : s < 2 ^ 64) : crcAll ^^^ s = crcAll - s := by
  have h : (BitVec.allOnes 64 ^^^ BitVec.ofNat 64 s).toNat = (~~~ BitVec.ofNat 64 s).toNat := by rw [BitVec.allOnes_xor]
  rw [BitVec.toNat_xor, BitVec.toNat_not, BitVec.toNat_allOnes, BitVec.toNat_ofNat, Nat.mod_eq_of_lt hs] at h
  exact h
theorem u64_val {x y : Int} (h : x = y) : Value.int .u64 x = Value.int .u64 y := by rw [h]
theorem not_u64 {s : Nat} (hs : s < 2 ^ 64) : bits .xor .u64 IntKind.u64.max (s : Int) = ((crcAll - s : Nat) : Int) := by
  have e : IntKind.u64.max = ((crcAll : Nat) : Int) := by decide
  rw [e, u64_xor_lt crcAll_lt hs, all_xor hs]
theorem crcL_cons (v b : Nat) (l : List Nat) : crcL v (b :: l) = crcL (crcB v b) l := rfl
theorem crcL_step {k s x m : Nat} {xs : List Nat} (hk : k < xs.length) (ex : xs.getD k 0 = x) (H : crcL s (xs.drop k) = m) : crcL (crcB s x) (xs.drop (k + 1)) = m := by
  rw [List.drop_eq_getElem_cons hk] at H
  have e : xs[k] = x := by rw [← ex, List.getD_eq_getElem?_getD, List.getElem?_eq_getElem hk]; rfl
  rw [e] at H
  exact (crcL_cons s x _).symm.trans H
/-- What the walk of four bits reckons. -/
theorem four {y : Nat} (hy : y < 2 ^ 64) : ∃ m t z : Nat, m < 16 ∧ t = crcTab.getD m 0 ∧ z < 2 ^ 64 ∧ z = crcN 4 y ∧ bits .and .u64 (y : Int) 15 = (m : Int) ∧ bits .xor .u64 ((y : Int) / 16) (t : Int) = (z : Int) := by
  refine ⟨y % 16, _, crc4 y, Nat.mod_lt _ (by omega), rfl, crc4_lt hy, crc4_eq y, u64_and15 hy, ?_⟩
  rw [u64_shr4, u64_xor_lt (by omega) (crcTab_lt ⟨y % 16, Nat.mod_lt _ (by omega)⟩), crc4]

theorem odd_yes {v : Nat} (h : ((v : Int) % 2 == 1) = true) : v % 2 = 1 := by
  have := of_decide_eq_true h; omega
theorem odd_no {v : Nat} (h : ((v : Int) % 2 == 1) = false) : ¬ v % 2 = 1 := by
  have := of_decide_eq_false h; omega
theorem half_xor {v : Nat} (hv : v < 2 ^ 64) : bits .xor .u64 ((v : Int) / 2) 14514072000185962306 = (((v / 2) ^^^ crcC : Nat) : Int) := by
  have e : (v : Int) / 2 = ((v / 2 : Nat) : Int) := by omega
  rw [e]
  exact u64_xor_lt (by omega) crcC_lt
theorem crcN_odd {j v z : Nat} (hj : j < 8) (h : v % 2 = 1) (H : crcN (8 - j) v = z) : crcN (8 - (j + 1)) ((v / 2) ^^^ crcC) = z := by
  obtain ⟨n, hn⟩ : ∃ n, 8 - j = n + 1 := ⟨8 - j - 1, by omega⟩
  have e : 8 - (j + 1) = n := by omega
  have h1 : crc1 v = (v / 2) ^^^ crcC := by unfold crc1; rw [if_pos h]
  rw [e, ← h1]; rw [hn] at H; exact H
theorem crcN_even {j v z : Nat} (hj : j < 8) (h : ¬ v % 2 = 1) (H : crcN (8 - j) v = z) : crcN (8 - (j + 1)) (v / 2) = z := by
  obtain ⟨n, hn⟩ : ∃ n, 8 - j = n + 1 := ⟨8 - j - 1, by omega⟩
  have e : 8 - (j + 1) = n := by omega
  have h1 : crc1 v = v / 2 := by unfold crc1; rw [if_neg h]
  rw [e, ← h1]; rw [hn] at H; exact H

set_option maxHeartbeats 1000000 in
set_option maxRecDepth 100000 in
theorem rsum_row (b off len cap : Nat) (xs : List Nat) (hl : xs.length = len) (hx : ∀ i, i < len → xs.getD i 0 < 256) (hm : len ≤ 9223372036854775807) (w : World) (hc : ∀ i, i < len → w.cell? ⟨b, off + i, none⟩ = some (.int .u8 ((xs.getD i 0 : Nat) : Int))) :
    Calls Tryz.prog 117 #[.slice (some ⟨b, off, none⟩) len cap] w fun e w' => e = .returned (.int .u64 (crc xs : Nat)) ∧ w' = w := by
  have h0 : bits .xor .u64 IntKind.u64.max 0 = ((crcAll : Nat) : Int) := not_u64 (s := 0) (by decide)
  go_enter Tryz.func117, Tryz.ntmps117
  go_wp2
  clear h0
  go_loop [3, 4, 5, 6] (fun vs vi _ _ => ∃ k s : Nat, k ≤ len ∧ s < 2 ^ 64 ∧ vs = .int .u64 (s : Int) ∧ vi = .int .i64 (k : Int) ∧ Hid (crcL s (xs.drop k) = crcL crcAll xs)) (fun _ i _ _ => len - (intOf i).toNat)
  case atStart => exact ⟨0, crcAll, by omega, crcAll_lt, rfl, rfl, rfl⟩
  case round =>
    obtain ⟨k, s, hk, hs, rfl, rfl, H⟩ := hrel
    by_cases hlt : k < len
    · have hcell := hc k hlt
      have hb := hx k hlt
      obtain ⟨x, ex⟩ : ∃ x, xs.getD k 0 = x := ⟨_, rfl⟩
      rw [ex] at hcell hb
      have ey := u64_xor_lt hs (Nat.lt_trans hb (by decide))
      obtain ⟨y, hy⟩ : ∃ y, s ^^^ x = y := ⟨_, rfl⟩
      have ly : y < 2 ^ 64 := hy ▸ Nat.xor_lt_two_pow hs (Nat.lt_trans hb (by decide))
      rw [hy] at ey
      have G : Hid (crcL (crcB s x) (xs.drop (k + 1)) = crcL crcAll xs) := crcL_step (by omega) ex H.out
      have lz : crcB s x < 2 ^ 64 := crcB_lt hs hb
      obtain ⟨z, hz⟩ : ∃ z, crcB s x = z := ⟨_, rfl⟩
      have Z : Hid (crcN 8 y = z) := by rw [← hy]; exact hz
      rw [hz] at lz
      have G2 : Hid (crcL z (xs.drop (k + 1)) = crcL crcAll xs) := by rw [← hz]; exact G
      clear ex hc hx hy H G hz
      go_wp2
      clear ey hcell
      go_loop [3, 5, 6] (fun vs vj _ => ∃ j v : Nat, j ≤ 8 ∧ v < 2 ^ 64 ∧ vs = .int .u64 (v : Int) ∧ vj = .int .i64 (j : Int) ∧ Hid (crcN (8 - j) v = z)) (fun _ i _ => 8 - (intOf i).toNat)
      case atStart => exact ⟨0, y, by omega, ly, rfl, rfl, Z⟩
      case round =>
        obtain ⟨j, v, hj, hv, rfl, rfl, V⟩ := hrel
        by_cases hjt : j < 8
        · go_wp2
          · have h1 : ((v : Int) % 2 == 1) = true := by assumption
            have h2 := odd_yes h1
            clear h1
            go_round
            case rel => exact ⟨j + 1, (v / 2) ^^^ crcC, by omega, Nat.xor_lt_two_pow (by omega) crcC_lt, u64_val (half_xor hv), by go_num, crcN_odd hjt h2 V.out⟩
            case measure => simp [intOf]; omega
          · have h1 : ((v : Int) % 2 == 1) = false := by assumption
            have h2 := odd_no h1
            clear h1
            go_round
            case rel => exact ⟨j + 1, v / 2, by omega, by omega, u64_val (by omega), by go_num, crcN_even hjt h2 V.out⟩
            case measure => simp [intOf]; omega
        · have e : j = 8 := by omega
          subst e
          have VZ : v = z := V.out
          subst VZ
          clear V
          go_wp2
          go_round
          case rel => exact ⟨k + 1, v, by omega, lz, rfl, by go_num, G2⟩
          case measure => simp [intOf]; omega
    · have e : k = xs.length := by omega
      have G : Hid (s = crcL crcAll xs) := by
        have := H.out
        rw [e, List.drop_length] at this
        exact this
      clear H hc hx
      go_wp2
      go_ret
      exact ⟨ret_u64 (by rw [not_u64 hs, crc, ← G.out]), rfl⟩
end Go.Proofs.YtlghjjennhpjeaaGreatDoor

/-
  How the document reads a shard: its list of places (Scan) in memory, and the small calls on it: err, must, num.
-/
namespace Go.Proofs.YtlghjjennhpjeaaGreatDoor
open Go.RowKit Go.Deep

/-- Below B all blocks but those of S are as they were; no block has gone. -/
structure But (B : Nat) (S : Nat → Prop) (w w' : World) : Prop where
  os : w'.os = w.os
  tape : w'.tape = w.tape
  output : w'.output = w.output
  size : w.heap.size ≤ w'.heap.size
  block : ∀ k, k < B → ¬ S k → w'.heap[k]? = w.heap[k]?
theorem But.refl (B : Nat) (S : Nat → Prop) (w : World) : But B S w w := ⟨rfl, rfl, rfl, Nat.le_refl _, fun _ _ _ => rfl⟩
theorem But.trans {B : Nat} {S : Nat → Prop} {a b c : World} (h : But B S a b) (k : But B S b c) : But B S a c :=
  ⟨k.os.trans h.os, k.tape.trans h.tape, k.output.trans h.output, Nat.le_trans h.size k.size, fun i hi hs => (k.block i hi hs).trans (h.block i hi hs)⟩
theorem But.mono {B B' : Nat} {S S' : Nat → Prop} {a b : World} (h : But B S a b) (hB : B' ≤ B) (hS : ∀ k, S k → S' k) : But B' S' a b :=
  ⟨h.os, h.tape, h.output, h.size, fun k hk hs => h.block k (Nat.lt_of_lt_of_le hk hB) (fun x => hs (hS k x))⟩
theorem But.of_below {B : Nat} {S : Nat → Prop} {a b : World} (h : Below B a b) : But B S a b := ⟨h.os, h.tape, h.output, h.size, fun k hk _ => h.block k hk⟩
theorem But.setCell {B : Nat} {S : Nat → Prop} {a w : World} (h : But B S a w) {p : Addr} (hp : B ≤ p.block ∨ S p.block) (u : Value) : But B S a (w.setCell p u) :=
  h.trans ⟨rfl, rfl, rfl, by simp [World.setCell], fun k hk hs => Below.heap_setCell _ _ _ _ (by
    rintro rfl
    rcases hp with x | x
    · omega
    · exact hs x)⟩
theorem But.alloc {B : Nat} {S : Nat → Prop} {a w : World} (h : But B S a w) (hB : B ≤ w.heap.size) (o : Obj) : But B S a (w.alloc o) :=
  h.trans (.of_below ((Below.refl _ _).alloc hB o))
theorem But.drew {B : Nat} {S : Nat → Prop} {a w : World} (h : But B S a w) : But B S a w.drew := ⟨h.os, h.tape, h.output, h.size, h.block⟩
theorem But.grown {B : Nat} {S : Nat → Prop} {a w w' : World} {row : Option Nat} (h : But B S a w) (hg : w.grownBy w' row) (hB : B ≤ w.heap.size) (hr : ∀ k, row = some k → B ≤ k) : But B S a w' :=
  h.trans (.of_below ((Below.refl _ _).grown hg hB hr))
theorem But.cell {B : Nat} {S : Nat → Prop} {w w' : World} (h : But B S w w') {p : Addr} (hp : p.block < B) (hs : ¬ S p.block) : w'.cell? p = w.cell? p := World.cell?_of_block (w := w) (h.block p.block hp hs)
theorem But.frozen {B : Nat} {S : Nat → Prop} {w w' : World} (h : But B S w w') {p : Addr} (hp : p.block < B) (hs : ¬ S p.block) : w'.frozen? p = w.frozen? p := World.frozen?_of_block (w := w) (h.block p.block hp hs)
theorem But.below {B : Nat} {S : Nat → Prop} {w w' : World} (h : But B S w w') (hS : ∀ k, k < B → ¬ S k) : Below B w w' := ⟨h.os, h.tape, h.output, h.size, fun k hk => h.block k hk (hS k hk)⟩

/-- A row of cells stands in a block; none of them is frozen. -/
def RowAt (w : World) (b : Nat) (cs : List Value) (t : TypeId) : Prop := w.heap[b]? = some (.cells cs.toArray t (0, 0))
theorem RowAt.cell {w : World} {b : Nat} {cs : List Value} {t : TypeId} (h : RowAt w b cs t) {i : Nat} {v : Value} (hi : cs[i]? = some v) : w.cell? ⟨b, i, none⟩ = some v := by
  unfold RowAt at h
  simp [World.cell?, h, hi]
theorem RowAt.frozen {w : World} {b : Nat} {cs : List Value} {t : TypeId} (h : RowAt w b cs t) (i : Nat) : w.frozen? ⟨b, i, none⟩ = false := by
  unfold RowAt at h
  simp [World.frozen?, h]
theorem RowAt.lt {w : World} {b : Nat} {cs : List Value} {t : TypeId} (h : RowAt w b cs t) : b < w.heap.size := by
  unfold RowAt at h
  exact (Array.getElem?_eq_some_iff.1 h).1
theorem RowAt.set {w : World} {b : Nat} {cs : List Value} {t : TypeId} (h : RowAt w b cs t) (i : Nat) (v : Value) : RowAt (w.setCell ⟨b, i, none⟩ v) b (cs.set i v) t := by
  unfold RowAt at *
  simp [World.setCell, Array.getElem?_modify, h]
theorem RowAt.later {w w' : World} {b : Nat} {cs : List Value} {t : TypeId} {B : Nat} {S : Nat → Prop} (h : RowAt w b cs t) (hb : But B S w w') (h1 : b < B) (h2 : ¬ S b) : RowAt w' b cs t := by
  unfold RowAt at *
  rw [hb.block b h1 h2]; exact h
theorem RowAt.made (w : World) (cs : List Value) (t : TypeId) : RowAt (w.alloc (.cells cs.toArray t)) w.heap.size cs t := by
  show (w.heap.push _)[w.heap.size]? = _
  simp

/-- The document's list of places: the bytes, the place, the first error and its place. -/
def scanL (v : Value) (at_ e p : Nat) : List Value := [v, .int .i64 (at_ : Int), .int .i64 (e : Int), .int .i64 (p : Int)]
def Scn (w : World) (sb : Nat) (v : Value) (at_ e p : Nat) : Prop := RowAt w sb (scanL v at_ e p) 81

section
variable {w : World} {sb : Nat} {v : Value} {at_ e p : Nat}
theorem Scn.c0 (h : Scn w sb v at_ e p) : w.cell? ⟨sb, 0, none⟩ = some v := RowAt.cell h rfl
theorem Scn.c1 (h : Scn w sb v at_ e p) : w.cell? ⟨sb, 1, none⟩ = some (.int .i64 (at_ : Int)) := RowAt.cell h rfl
theorem Scn.c2 (h : Scn w sb v at_ e p) : w.cell? ⟨sb, 2, none⟩ = some (.int .i64 (e : Int)) := RowAt.cell h rfl
theorem Scn.c3 (h : Scn w sb v at_ e p) : w.cell? ⟨sb, 3, none⟩ = some (.int .i64 (p : Int)) := RowAt.cell h rfl
theorem Scn.setAt (h : Scn w sb v at_ e p) (x : Nat) : Scn (w.setCell ⟨sb, 1, none⟩ (.int .i64 (x : Int))) sb v x e p := RowAt.set h 1 _
theorem Scn.setE (h : Scn w sb v at_ e p) (x : Nat) : Scn (w.setCell ⟨sb, 2, none⟩ (.int .i64 (x : Int))) sb v at_ x p := RowAt.set h 2 _
theorem Scn.setP (h : Scn w sb v at_ e p) (x : Nat) : Scn (w.setCell ⟨sb, 3, none⟩ (.int .i64 (x : Int))) sb v at_ e x := RowAt.set h 3 _
end

/-- The first error stays. -/
def first (e x : Nat) : Nat := if e = 0 then x else e
def firstP (e p y : Nat) : Nat := if e = 0 then y else p

set_option maxHeartbeats 400000 in
set_option maxRecDepth 100000 in
theorem err_any (sb : Nat) (X Y : Int) (x y : Nat) (hX : X = x) (hY : Y = y) (v : Value) (at_ e p : Nat) (w : World) (h : Scn w sb v at_ e p) :
    Calls Tryz.prog 61 #[.pointer (some ⟨sb, 0, none⟩), .int .i64 X, .int .i64 Y] w fun r w' => r = .returned (.tuple #[]) ∧ Scn w' sb v at_ (first e x) (firstP e p y) ∧ But w.heap.size (· = sb) w w' := by
  subst hX hY
  have c2 := h.c2
  have c3 := h.c3
  have f2 := RowAt.frozen h 2
  have f3 := RowAt.frozen h 3
  go_enter Tryz.func61, Tryz.ntmps61
  by_cases he : e = 0
  · subst he
    have h1 := (h.setE x).setP y
    have b1 := ((But.refl w.heap.size (· = sb) w).setCell (p := ⟨sb, 2, none⟩) (.inr rfl) (.int .i64 (x : Int))).setCell (p := ⟨sb, 3, none⟩) (.inr rfl) (.int .i64 (y : Int))
    go_wp2
    go_end0
    exact ⟨rfl, h1, b1⟩
  · have he' : ((e : Int) == 0) = false := by simp; omega
    have E : Hid (¬ e = 0) := he
    clear he
    go_wp2
    go_end0
    refine ⟨rfl, ?_, But.refl _ _ _⟩
    unfold first firstP
    rw [if_neg E.out, if_neg E.out]
    exact h

set_option maxHeartbeats 400000 in
set_option maxRecDepth 100000 in
theorem must_any (sb : Nat) (ok : Bool) (X Y : Int) (x y : Nat) (hX : X = x) (hY : Y = y) (v : Value) (at_ e p : Nat) (w : World) (h : Scn w sb v at_ e p) :
    Calls Tryz.prog 31 #[.pointer (some ⟨sb, 0, none⟩), .bool ok, .int .i64 X, .int .i64 Y] w fun r w' => r = .returned (.tuple #[]) ∧ Scn w' sb v at_ (if ok then e else first e x) (if ok then p else firstP e p y) ∧ But w.heap.size (· = sb) w w' := by
  subst hX hY
  go_enter Tryz.func31, Tryz.ntmps31
  cases ok
  · go_wp2_with (first | (go_at_call 61; refine (err_any sb _ _ x y rfl rfl v at_ e p _ h).mono ?_; rintro r w' ⟨rfl, h1, b1⟩))
    go_end0
    exact ⟨rfl, h1, b1⟩
  · go_wp2
    go_end0
    exact ⟨rfl, h, But.refl _ _ _⟩

/-- The byte at a place. -/
def bAt (l : List UInt8) (i : Nat) : Nat := (l.getD i 0).toNat
theorem bAt_lt (l : List UInt8) (i : Nat) : bAt l i < 256 := UInt8.toNat_lt _
/-- The number of n bytes from a place on, the lowest first. -/
def le (l : List UInt8) (a : Nat) : Nat → Nat
  | 0 => 0
  | n + 1 => bAt l a + 256 * le l (a + 1) n
theorem le_lt (l : List UInt8) : ∀ (n a : Nat), le l a n < 256 ^ n
  | 0, _ => by simp [le]
  | n + 1, a => by
    have h1 := bAt_lt l a
    have h2 := le_lt l n (a + 1)
    simp only [le, Nat.pow_succ]
    omega
/-- The bytes stand in a block from a place on. -/
def Byt (w : World) (bb bo : Nat) (l : List UInt8) : Prop := ∀ i, i < l.length → w.cell? ⟨bb, bo + i, none⟩ = some (.int .u8 (bAt l i : Int))
theorem Byt.later {w w' : World} {bb bo : Nat} {l : List UInt8} {B : Nat} {S : Nat → Prop} (h : Byt w bb bo l) (hb : But B S w w') (h1 : bb < B) (h2 : ¬ S bb) : Byt w' bb bo l := fun i hi => (hb.cell (p := ⟨bb, bo + i, none⟩) h1 h2).trans (h i hi)

theorem num_step {l : List UInt8} {a c n : Nat} (hc : c + 1 ≤ n) : 256 * le l (a + (c + 1)) (n - (c + 1)) + bAt l (a + c) = le l (a + c) (n - c) := by
  obtain ⟨m, hm⟩ : ∃ m, n - c = m + 1 := ⟨n - c - 1, by omega⟩
  have e : n - (c + 1) = m := by omega
  rw [hm, e]
  simp only [le]
  rw [show a + (c + 1) = a + c + 1 by omega]
  omega

theorem ret_i64 {a b : Int} (h : a = b) : Ending.returned (.int .i64 a) = .returned (.int .i64 b) := by rw [h]
set_option maxHeartbeats 1000000 in
set_option maxRecDepth 100000 in
theorem snum_any (sb : Nat) (A N : Int) (a n : Nat) (hA : A = a) (hN : N = n) (hn : n ≤ 4) (bb bo cap : Nat) (l : List UInt8) (hl : l.length < 2 ^ 60) (at_ e p : Nat) (w : World) (h : Scn w sb (.slice (some ⟨bb, bo, none⟩) l.length cap) at_ e p) (hb : Byt w bb bo l) (hr : e = 0 → a + n ≤ l.length) :
    Calls Tryz.prog 29 #[.pointer (some ⟨sb, 0, none⟩), .int .i64 A, .int .i64 N] w fun r w' => r = .returned (.int .i64 ((if e = 0 then le l a n else 0 : Nat) : Int)) ∧ w' = w := by
  subst hA hN
  have c0 := h.c0
  have c2 := h.c2
  go_enter Tryz.func29, Tryz.ntmps29
  by_cases he : e = 0
  · subst he
    have hr' := hr rfl
    rw [if_pos rfl]
    clear hr h
    go_wp2
    go_loop [7, 8] (fun vv vi => ∃ c : Nat, c ≤ n ∧ vv = .int .i64 (le l (a + c) (n - c) : Nat) ∧ vi = .int .i64 ((c : Int) - 1)) (fun _ i => (intOf i + 1).toNat)
    case atStart => exact ⟨n, Nat.le_refl _, by simp [le], rfl⟩
    case round =>
      obtain ⟨c, hc, rfl, rfl⟩ := hrel
      cases c with
      | zero =>
        simp only [Nat.add_zero, Nat.sub_zero]
        go_wp2
        go_ret
        exact ⟨rfl, rfl⟩
      | succ c =>
        have hcell := hb (a + c) (by omega)
        have hs := num_step (l := l) (a := a) hc
        have hlt := le_lt l (n - (c + 1)) (a + (c + 1))
        have hp : 256 ^ (n - (c + 1)) ≤ 256 ^ 3 := Nat.pow_le_pow_right (by omega) (by omega)
        have hbl := bAt_lt l (a + c)
        obtain ⟨x, ex⟩ : ∃ x, le l (a + (c + 1)) (n - (c + 1)) = x := ⟨_, rfl⟩
        obtain ⟨y, ey⟩ : ∃ y, bAt l (a + c) = y := ⟨_, rfl⟩
        rw [ex] at hs hlt
        rw [ey] at hs hbl hcell
        have HS : Hid (256 * x + y = le l (a + c) (n - c)) := hs
        have hx : x < 16777216 := by
          have : (256 : Nat) ^ 3 = 16777216 := by decide
          omega
        have e1 : ((c + 1 : Nat) : Int) - 1 = (c : Int) := by omega
        rw [e1, ex]
        clear hs hlt hp ex ey hb e1
        go_wp2
        go_round
        case rel => exact ⟨c, by omega, by rw [← HS.out]; go_num, by go_num⟩
        case measure => simp [intOf] <;> omega
  · have he' : ((e : Int) == 0) = false := by simp; omega
    rw [if_neg he]
    clear he hr h
    go_wp2
    go_loop [7, 8] (fun vv vi => vv = .int .i64 0 ∧ vi = .int .i64 ((n : Int) - 1)) (fun _ i => (intOf i + 1).toNat)
    case atStart => exact ⟨rfl, rfl⟩
    case round =>
      obtain ⟨rfl, rfl⟩ := hrel
      cases n with
      | zero =>
        go_wp2
        go_ret
        exact ⟨rfl, rfl⟩
      | succ n =>
        have e1 : ((n + 1 : Nat) : Int) - 1 = (n : Int) := by omega
        rw [e1]
        go_wp2
        go_ret
        exact ⟨rfl, rfl⟩
end Go.Proofs.YtlghjjennhpjeaaGreatDoor

/-
  How the document reads a shard: the signs that must come (fixed).
-/
namespace Go.Proofs.YtlghjjennhpjeaaGreatDoor
open Go.RowKit Go.Deep

/-- What is found wrong first, behind what was found before. -/
def eOf (r : Option (Nat × Nat)) (e : Nat) : Nat := match r with | none => e | some x => first e x.1
def pOf (r : Option (Nat × Nat)) (e p : Nat) : Nat := match r with | none => p | some x => firstP e p x.2
theorem eOf_none (e : Nat) : eOf none e = e := rfl
theorem pOf_none (e p : Nat) : pOf none e p = p := rfl
theorem eOf_err {e : Nat} (h : e ≠ 0) (r : Option (Nat × Nat)) : eOf r e = e := by
  cases r with
  | none => rfl
  | some x => simp [eOf, first, h]
theorem pOf_err {e : Nat} (h : e ≠ 0) (p : Nat) (r : Option (Nat × Nat)) : pOf r e p = p := by
  cases r with
  | none => rfl
  | some x => simp [pOf, firstP, h]

/-- These bytes come from a place on, or what is wrong and where. -/
def fixE (l : List UInt8) (a : Nat) : List UInt8 → Option (Nat × Nat)
  | [] => none
  | c :: ws => if l.length ≤ a then some (4, l.length) else if bAt l a = c.toNat then fixE l (a + 1) ws else some (5, a)

theorem fixE_step {l ws : List UInt8} {a i : Nat} {r : Option (Nat × Nat)} (hi : i < ws.length) (H : fixE l (a + i) (ws.drop i) = r) :
    (if l.length ≤ a + i then some (4, l.length) else if bAt l (a + i) = (ws.getD i 0).toNat then fixE l (a + (i + 1)) (ws.drop (i + 1)) else some (5, a + i)) = r := by
  rw [List.drop_eq_getElem_cons hi] at H
  have e : ws.getD i 0 = ws[i] := by rw [List.getD_eq_getElem?_getD, List.getElem?_eq_getElem hi]; rfl
  rw [e]
  exact H
theorem But.drewN {B : Nat} {S : Nat → Prop} {a w : World} (h : But B S a w) (n : Nat) : But B S a (w.drewN n) := h.trans ⟨rfl, rfl, rfl, Nat.le_refl _, fun _ _ _ => rfl⟩
theorem Scn.later {w w' : World} {sb : Nat} {v : Value} {at_ e p B : Nat} {S : Nat → Prop} (h : Scn w sb v at_ e p) (hb : But B S w w') (h1 : sb < B) (h2 : ¬ S sb) : Scn w' sb v at_ e p := RowAt.later h hb h1 h2
theorem Scn.heap {w w' : World} {sb : Nat} {v : Value} {at_ e p : Nat} (h : Scn w sb v at_ e p) (hh : w'.heap = w.heap) : Scn w' sb v at_ e p := by
  unfold Scn RowAt at *
  rw [hh]; exact h

theorem index_str (ws : List UInt8) (i : Nat) (hi : i < ws.length) : ∀ w, (Instr.index 9 (.string ⟨ws.toArray⟩) (.int .i64 (i : Int))).run Tryz.prog w = .ok (.int .u8 ((ws.getD i 0).toNat : Int)) w := by
  intro w
  rw [run_index_string w 9 _ _ _ Tryz.underlying9]
  have h : 0 ≤ (i : Int) ∧ (i : Int) < ((⟨ws.toArray⟩ : ByteArray).size : Int) := by simp [ByteArray.size]; omega
  rw [dif_pos h]
  have e : ws.getD i 0 = ws[i] := by rw [List.getD_eq_getElem?_getD, List.getElem?_eq_getElem hi]; rfl
  rw [e]
  rfl
set_option maxHeartbeats 1000000 in
set_option maxRecDepth 100000 in
theorem fixed_any (sb : Nat) (ws : List UInt8) (hws : ws.length < 100) (bb bo cap : Nat) (hbs : bb ≠ sb) (l : List UInt8) (hl : l.length < 2 ^ 60) (at_ e p : Nat) (ha : at_ < 2 ^ 60) (w : World) (h : Scn w sb (.slice (some ⟨bb, bo, none⟩) l.length cap) at_ e p) (hb : Byt w bb bo l) (hbb : bb < w.heap.size) :
    Calls Tryz.prog 34 #[.pointer (some ⟨sb, 0, none⟩), .string ⟨ws.toArray⟩] w fun r w' => r = .returned (.tuple #[]) ∧ Scn w' sb (.slice (some ⟨bb, bo, none⟩) l.length cap) at_ (eOf (fixE l at_ ws) e) (pOf (fixE l at_ ws) e p) ∧ But w.heap.size (· = sb) w w' := by
  have hsb := RowAt.lt h
  go_enter Tryz.func34, Tryz.ntmps34
  go_wp2
  go_loopw [4] (fun vi wr => ∃ i : Nat, i ≤ ws.length ∧ vi = .int .i64 (i : Int) ∧ But w.heap.size (· = sb) w wr ∧
    ((e = 0 ∧ Scn wr sb (.slice (some ⟨bb, bo, none⟩) l.length cap) at_ 0 p ∧ fixE l (at_ + i) (ws.drop i) = fixE l at_ ws) ∨
     ((∃ e', e' ≠ 0 ∧ e' = eOf (fixE l at_ ws) e ∧ Scn wr sb (.slice (some ⟨bb, bo, none⟩) l.length cap) at_ e' (pOf (fixE l at_ ws) e p)))) ) (fun i _ => ws.length - (intOf i).toNat)
  case atStart =>
    refine ⟨0, by omega, rfl, But.refl _ _ _, ?_⟩
    by_cases he : e = 0
    · exact .inl ⟨he, he ▸ h, rfl⟩
    · exact .inr ⟨e, he, (eOf_err he _).symm, by rw [pOf_err he]; exact h⟩
  case round =>
    obtain ⟨i, hi, rfl, hB, hS⟩ := hrel
    have hlen : (⟨ws.toArray⟩ : ByteArray).size = ws.length := by simp [ByteArray.size]
    rcases hS with ⟨rfl, hS, H⟩ | ⟨e', he', ee, hS⟩
    · have c0 := hS.c0
      have c1 := hS.c1
      have c2 := hS.c2
      by_cases hlt : i < ws.length
      · have HH : Hid _ := fixE_step hlt H
        clear H
        by_cases hge : l.length ≤ at_ + i
        · have hge' : ((at_ : Int) + (i : Int) ≥ (l.length : Int)) := by omega
          have H2 : Hid (fixE l at_ ws = some (4, l.length)) := by have := HH.out; rw [if_pos hge] at this; exact this.symm
          clear HH hge
          go_wp2
          go_quiet (fail)
          go_wp2_with (first | (go_at_call 61; refine (err_any sb _ _ 4 l.length (by rfl) (by rfl) _ at_ 0 p _ (by exact hS.heap rfl)).mono ?_; rintro r w' ⟨rfl, h1, b1⟩))
          go_roundw
          case rel => exact ⟨i + 1, by omega, by go_num, (hB.drewN _).trans (b1.mono hB.size (fun _ x => x)), .inr ⟨4, by decide, by rw [H2.out]; rfl, by rw [H2.out]; exact h1⟩⟩
          case measure => simp [intOf]; omega
        · have hlt2 : at_ + i < l.length := by omega
          have hge' : decide ((l.length : Int) ≤ (at_ : Int) + (i : Int)) = false := by simp; omega
          have hcell := (hb.later hB hbb hbs) (at_ + i) hlt2
          have hix := index_str ws i hlt
          obtain ⟨x, ex⟩ : ∃ x, bAt l (at_ + i) = x := ⟨_, rfl⟩
          obtain ⟨y, ey⟩ : ∃ y, (ws.getD i 0).toNat = y := ⟨_, rfl⟩
          rw [ex] at hcell HH
          rw [ey] at hix HH
          clear ex ey
          by_cases hc : x = y
          · have H2 : Hid (fixE l (at_ + (i + 1)) (ws.drop (i + 1)) = fixE l at_ ws) := by have := HH.out; rw [if_neg hge, if_pos hc] at this; exact this
            clear HH hge
            go_wp2
            go_quiet (fail)
            go_wp2
            go_quiet (fail)
            go_wp2
            go_roundw
            case rel => exact ⟨i + 1, by omega, by go_num, hB.drewN _, .inl ⟨by simp, hS.heap rfl, H2⟩⟩
            case measure => simp [intOf]; omega
          · have H2 : Hid (fixE l at_ ws = some (5, at_ + i)) := by have := HH.out; rw [if_neg hge, if_neg hc] at this; exact this.symm
            have hc' : ((x : Int) == (y : Int)) = false := by simp; omega
            clear HH hge hc
            go_wp2
            go_quiet (fail)
            go_wp2
            go_quiet (fail)
            go_wp2_with (first | (go_at_call 61; refine (err_any sb _ _ 5 (at_ + i) (by rfl) (by simp) _ at_ 0 p _ (by exact hS.heap rfl)).mono ?_; rintro r w' ⟨rfl, h1, b1⟩))
            go_roundw
            case rel => exact ⟨i + 1, by omega, by go_num, (hB.drewN _).trans (b1.mono hB.size (fun _ x => x)), .inr ⟨5, by decide, by rw [H2.out]; rfl, by rw [H2.out]; exact h1⟩⟩
            case measure => simp [intOf]; omega
      · have ei : i = ws.length := by omega
        have H2 : Hid (fixE l at_ ws = none) := by rw [← H, ei, List.drop_length]; rfl
        clear H
        go_wp2
        go_end0
        exact ⟨rfl, by rw [H2.out]; exact hS, hB⟩
    · have c2 := hS.c2
      have he2 : ((e' : Int) == 0) = false := by simp; omega
      have EE : Hid (e' = eOf (fixE l at_ ws) e) := ee
      clear he' ee
      by_cases hlt : i < ws.length
      · go_wp2
        go_end0
        exact ⟨rfl, EE.out ▸ hS, hB⟩
      · go_wp2
        go_end0
        exact ⟨rfl, EE.out ▸ hS, hB⟩
end Go.Proofs.YtlghjjennhpjeaaGreatDoor

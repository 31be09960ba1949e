/-
  Which column is put where: in plain words.
-/
import Derived.Test.YtkpcmfgeanlcnaaSvG
namespace Go.Proofs.Ytkpcmfgeanlcnaa

def e1 : Option Nat → Nat
  | some _ => 0
  | none => 1
/-- How many places below t are empty. -/
def un (fl : Nat → Option Nat) : Nat → Nat
  | 0 => 0
  | t + 1 => un fl t + e1 (fl t)
theorem un_none (t : Nat) : un (fun _ => none) t = t := by
  induction t with
  | zero => rfl
  | succ t ih => rw [un, ih]; rfl
theorem un_upd (fl : Nat → Option Nat) (p i : Nat) (h : fl p = none) : ∀ t, un (fun x => if x = p then some i else fl x) t + (if p < t then 1 else 0) = un fl t
  | 0 => rfl
  | t + 1 => by
    have ih := un_upd fl p i h t
    simp only [un]
    by_cases e : t = p
    · subst e
      rw [if_neg (by omega)] at ih
      rw [if_pos rfl, if_pos (by omega), h]
      simp only [e1]
      omega
    · rw [if_neg e]
      by_cases e2 : p < t
      · rw [if_pos e2] at ih
        rw [if_pos (by omega)]
        omega
      · rw [if_neg e2] at ih
        rw [if_neg (by omega)]
        omega
theorem un_le (fl : Nat → Option Nat) {a b : Nat} (h : a ≤ b) : un fl a ≤ un fl b := by
  induction b with
  | zero =>
    obtain rfl : a = 0 := by omega
    exact Nat.le_refl _
  | succ b ih =>
    rcases Nat.lt_or_ge a (b + 1) with h1 | h1
    · exact Nat.le_trans (ih (by omega)) (by rw [un]; omega)
    · obtain rfl : a = b + 1 := by omega
      exact Nat.le_refl _

/-- Behind c columns. -/
structure Pl (k : Nat) (ix : Nat → Nat) (c : Nat) (fl : Nat → Option Nat) (O : List Nat) : Prop where
  fl1 : ∀ t i, fl t = some i → i < c ∧ ix i = t ∧ t < k
  fl2 : ∀ i, i < c → ix i < k → fl (ix i) = some i
  o1 : ∀ (m i : Nat), O[m]? = some i → i < c ∧ k ≤ ix i
  o2 : ∀ i, i < c → k ≤ ix i → ∃ m : Nat, O[m]? = some i
  o3 : ∀ (m m' i : Nat), O[m]? = some i → O[m']? = some i → m = m'
  cnt : O.length + k = c + un fl k
theorem pl_start (k : Nat) (ix : Nat → Nat) : Pl k ix 0 (fun _ => none) [] :=
  ⟨fun _ _ h => (by cases h), fun _ h => absurd h (by omega), fun _ _ h => (by simp at h), fun _ h => absurd h (by omega), fun _ _ _ h => (by simp at h), by rw [un_none]; simp⟩
theorem Pl.own {k c : Nat} {ix : Nat → Nat} {fl : Nat → Option Nat} {O : List Nat} (h : Pl k ix c fl O) (hi : ∀ i, i < c → ix i ≠ ix c) (hc : ix c < k) : fl (ix c) = none ∧ Pl k ix (c + 1) (fun x => if x = ix c then some c else fl x) O := by
  have hn : fl (ix c) = none := by
    cases hf : fl (ix c) with
    | none => rfl
    | some i =>
      obtain ⟨h1, h2, _⟩ := h.fl1 _ _ hf
      exact absurd h2 (hi i h1)
  refine ⟨hn, fun t i ht => ?_, fun i hic hik => ?_, fun m i hm => ?_, fun i hic hik => ?_, h.o3, ?_⟩
  · by_cases e : t = ix c
    · rw [if_pos e] at ht
      cases ht
      exact ⟨by omega, e.symm, by omega⟩
    · rw [if_neg e] at ht
      obtain ⟨h1, h2, h3⟩ := h.fl1 t i ht
      exact ⟨by omega, h2, h3⟩
  · by_cases e : i = c
    · subst e; rw [if_pos rfl]
    · rw [if_neg (hi i (by omega)), h.fl2 i (by omega) hik]
  · obtain ⟨h1, h2⟩ := h.o1 m i hm
    exact ⟨by omega, h2⟩
  · have : i ≠ c := by rintro rfl; omega
    exact h.o2 i (by omega) hik
  · have h1 := un_upd fl (ix c) c hn k
    rw [if_pos hc] at h1
    have h2 := h.cnt
    omega
theorem Pl.other {k c : Nat} {ix : Nat → Nat} {fl : Nat → Option Nat} {O : List Nat} (h : Pl k ix c fl O) (hc : k ≤ ix c) : Pl k ix (c + 1) fl (O ++ [c]) := by
  refine ⟨fun t i ht => ?_, fun i hic hik => ?_, fun m i hm => ?_, fun i hic hik => ?_, fun m m' i hm hm' => ?_, ?_⟩
  · obtain ⟨h1, h2⟩ := h.fl1 t i ht
    exact ⟨by omega, h2⟩
  · have : i ≠ c := by rintro rfl; omega
    exact h.fl2 i (by omega) hik
  · rw [List.getElem?_append] at hm
    split at hm
    · obtain ⟨h1, h2⟩ := h.o1 m i hm
      exact ⟨by omega, h2⟩
    · have : i = c := by
        cases hmm : m - O.length with
        | zero => rw [hmm] at hm; simp at hm; exact hm.symm
        | succ x => rw [hmm] at hm; simp at hm
      subst this
      exact ⟨by omega, hc⟩
  · by_cases e : i = c
    · subst e
      exact ⟨O.length, by simp⟩
    · obtain ⟨m, hm⟩ := h.o2 i (by omega) hik
      exact ⟨m, by rw [List.getElem?_append, if_pos (List.getElem?_eq_some_iff.1 hm).1]; exact hm⟩
  · have key : ∀ m : Nat, (O ++ [c])[m]? = some i → (m < O.length ∧ O[m]? = some i) ∨ (m = O.length ∧ i = c) := by
      intro m hm
      rw [List.getElem?_append] at hm
      split at hm
      · exact .inl ⟨by assumption, hm⟩
      · refine .inr ?_
        cases hmm : m - O.length with
        | zero => rw [hmm] at hm; simp at hm; exact ⟨by omega, hm.symm⟩
        | succ x => rw [hmm] at hm; simp at hm
    rcases key m hm with ⟨h1, h2⟩ | ⟨h1, h2⟩ <;> rcases key m' hm' with ⟨h3, h4⟩ | ⟨h3, h4⟩
    · exact h.o3 m m' i h2 h4
    · have := (h.o1 m i h2).1; omega
    · have := (h.o1 m' i h4).1; omega
    · omega
  · have := h.cnt
    simp
    omega

/-- Which column is put at place t, in the end. -/
def sg (fl : Nat → Option Nat) (O : List Nat) (t : Nat) : Nat := match fl t with
  | some i => i
  | none => O.getD (un fl t) 0
theorem Pl.room {k : Nat} {ix : Nat → Nat} {fl : Nat → Option Nat} {O : List Nat} (h : Pl k ix k fl O) {t : Nat} (ht : t < k) (hf : fl t = none) : un fl t < O.length := by
  have h1 := un_le fl (show t + 1 ≤ k by omega)
  have h2 := h.cnt
  rw [un, hf] at h1
  simp only [e1] at h1
  omega
theorem un_hit (fl : Nat → Option Nat) : ∀ (k m : Nat), m < un fl k → ∃ t, t < k ∧ fl t = none ∧ un fl t = m
  | 0, m, h => absurd h (by simp [un])
  | k + 1, m, h => by
    rcases Nat.lt_or_ge m (un fl k) with h1 | h1
    · obtain ⟨t, h2, h3⟩ := un_hit fl k m h1
      exact ⟨t, by omega, h3⟩
    · rw [un] at h
      cases hf : fl k with
      | some i => rw [hf] at h; simp only [e1] at h; omega
      | none =>
        rw [hf] at h
        simp only [e1] at h
        exact ⟨k, by omega, hf, by omega⟩

/-- What is so in the end. -/
structure Placed (k : Nat) (ix σ : Nat → Nat) : Prop where
  lt : ∀ t, t < k → σ t < k
  on : ∀ t, t < k → ix (σ t) < k → ix (σ t) = t
  inj : ∀ t u, t < k → u < k → t ≠ u → ix (σ t) ≠ ix (σ u)
  all : ∀ i, i < k → ∃ t, t < k ∧ σ t = i
theorem Pl.placed {k : Nat} {ix : Nat → Nat} {fl : Nat → Option Nat} {O : List Nat} (h : Pl k ix k fl O) (hi : ∀ i j, i < k → j < k → i ≠ j → ix i ≠ ix j) : Placed k ix (sg fl O) := by
  have hO : ∀ t, t < k → fl t = none → O[un fl t]? = some (sg fl O t) := fun t ht hf => by
    have := h.room ht hf
    simp only [sg, hf]
    rw [List.getD_eq_getElem?_getD, List.getElem?_eq_getElem this]
    rfl
  have lt : ∀ t, t < k → sg fl O t < k := fun t ht => by
    cases hf : fl t with
    | some i => simp only [sg, hf]; exact (h.fl1 t i hf).1
    | none => exact (h.o1 _ _ (hO t ht hf)).1
  have mono : ∀ t u, t < u → fl t = none → un fl t < un fl u := fun t u htu hf => by
    have := un_le fl (show t + 1 ≤ u from htu)
    rw [un, hf] at this
    simp only [e1] at this
    omega
  refine ⟨lt, fun t ht hx => ?_, fun t u ht hu hne => ?_, fun i hik => ?_⟩
  · cases hf : fl t with
    | some i => simp only [sg, hf]; exact (h.fl1 t i hf).2.1
    | none => have := (h.o1 _ _ (hO t ht hf)).2; omega
  · refine hi _ _ (lt t ht) (lt u hu) fun e => ?_
    cases hf : fl t with
    | some i =>
      cases hg : fl u with
      | some j =>
        have h1 := (h.fl1 t i hf).2.1
        have h2 := (h.fl1 u j hg).2.1
        simp only [sg, hf, hg] at e
        subst e
        omega
      | none =>
        have h1 := (h.o1 _ _ (hO u hu hg)).2
        rw [← e] at h1
        simp only [sg, hf] at h1
        have h2 := (h.fl1 t i hf).2
        omega
    | none =>
      have h0 := hO t ht hf
      cases hg : fl u with
      | some j =>
        have h1 := (h.o1 _ _ h0).2
        rw [e] at h1
        simp only [sg, hg] at h1
        have h2 := (h.fl1 u j hg).2
        omega
      | none =>
        have h1 := hO u hu hg
        rw [e] at h0
        have h2 := h.o3 _ _ _ h0 h1
        rcases Nat.lt_or_ge t u with h3 | h3
        · have := mono t u h3 hf; omega
        · have := mono u t (by omega) hg; omega
  · rcases Nat.lt_or_ge (ix i) k with hx | hx
    · exact ⟨ix i, hx, by simp only [sg, h.fl2 i hik hx]⟩
    · obtain ⟨m, hm⟩ := h.o2 i hik hx
      have hml := (List.getElem?_eq_some_iff.1 hm).1
      have := h.cnt
      obtain ⟨t, h1, h2, h3⟩ := un_hit fl k m (by omega)
      refine ⟨t, h1, ?_⟩
      have := hO t h1 h2
      rw [h3, hm] at this
      cases this
      rfl
end Go.Proofs.Ytkpcmfgeanlcnaa

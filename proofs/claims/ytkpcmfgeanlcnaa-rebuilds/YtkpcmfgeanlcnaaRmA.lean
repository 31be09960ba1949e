/-
  The document's elimination with exchange, in plain words: steps on rows, done to a column of bytes too.
-/
import Derived.Test.YtkpcmfgeanlcnaaGjB
namespace Go.Proofs.Ytkpcmfgeanlcnaa
namespace F
/-- A step: exchange, multiply, add. -/
structure St where
  kind : Nat
  a : Nat
  b : Nat
  z : F
def ap (s : St) (v : Nat → F) (i : Nat) : F :=
  if s.kind = 0 then (if i = s.a then v s.b else if i = s.b then v s.a else v i)
  else if s.kind = 1 then (if i = s.a then mu (v s.a) s.z else v i)
  else (if i = s.a then add (v s.a) (mu s.z (v s.b)) else v i)
def run : List St → (Nat → F) → Nat → F
  | [], v => v
  | s :: l, v => run l (ap s v)
theorem run_snoc (s : St) : ∀ (l : List St) (v : Nat → F), run (l ++ [s]) v = ap s (run l v)
  | [], _ => rfl
  | t :: l, v => by rw [List.cons_append, run, run_snoc s l, run]
def apM (s : St) (m : Nat → Nat → F) (i j : Nat) : F := ap s (fun r => m r j) i
structure Fine (k : Nat) (s : St) : Prop where
  a : s.a < k
  b : s.b < k
  z : s.kind = 1 → s.z ≠ 0
  ne : s.kind ≠ 0 → s.kind ≠ 1 → s.a ≠ s.b

theorem dot_ap (k : Nat) (s : St) (m : Nat → Nat → F) (x : Nat → F) (i : Nat) : dot k (apM s m i) x = ap s (fun r => dot k (m r) x) i := by
  unfold apM ap
  split
  · split
    · rfl
    · split <;> rfl
  · split
    · split
      · have : (fun j => mu (m s.a j) s.z) = scaled s.z (m s.a) := rfl
        rw [this, dot_scaled, mu_comm]
      · rfl
    · split
      · have : (fun j => add (m s.a j) (mu s.z (m s.b j))) = added s.z (m s.a) (m s.b) := by
          funext j
          rw [mu_comm]
          rfl
        rw [this, dot_added]
      · rfl
theorem ap_inj {k : Nat} {s : St} (h : Fine k s) (u v : Nat → F) : (∀ i, i < k → u i = v i) ↔ ∀ i, i < k → ap s u i = ap s v i := by
  constructor
  · intro e i hi
    unfold ap
    rw [e i hi, e s.a h.a, e s.b h.b]
  · intro e i hi
    have ea := e s.a h.a
    have eb := e s.b h.b
    have ei := e i hi
    unfold ap at ea eb ei
    by_cases h0 : s.kind = 0
    · simp only [if_pos h0] at ea eb ei
      simp only [if_true] at ea
      by_cases hia : i = s.a
      · subst hia
        by_cases hba : s.b = s.a
        · rw [← hba]; exact ea
        · simp only [if_neg hba, if_true] at eb; exact eb
      · by_cases hib : i = s.b
        · rw [hib]; exact ea
        · simp only [if_neg hia, if_neg hib] at ei; exact ei
    · simp only [if_neg h0] at ea eb ei
      by_cases h1 : s.kind = 1
      · simp only [if_pos h1] at ea eb ei
        simp only [if_true] at ea
        by_cases hia : i = s.a
        · rw [hia]
          rw [mu_comm, mu_comm (v s.a)] at ea
          exact mu_cancel (h.z h1) ea
        · simp only [if_neg hia] at ei; exact ei
      · simp only [if_neg h1] at ea eb ei
        have hab := h.ne h0 h1
        have hb : u s.b = v s.b := by simp only [if_neg (Ne.symm hab)] at eb; exact eb
        by_cases hia : i = s.a
        · rw [hia]
          simp only [if_true] at ea
          rw [hb] at ea
          have := congrArg (fun x => add x (mu s.z (v s.b))) ea
          simp only [add_assoc, add_self, add_zero] at this
          exact this
        · simp only [if_neg hia] at ei; exact ei

/-- The rows as they stand, the steps as they were. -/
structure Rs (k : Nat) (M : Nat → Nat → F) (m : Nat → Nat → F) (l : List St) : Prop where
  same : ∀ x y : Nat → F, (∀ i, i < k → dot k (M i) x = y i) ↔ ∀ i, i < k → dot k (m i) x = run l y i
  fine : ∀ s ∈ l, Fine k s
theorem rs_start (k : Nat) (M : Nat → Nat → F) : Rs k M M [] := ⟨fun _ _ => Iff.rfl, fun _ h => by cases h⟩
theorem Rs.step {k : Nat} {M m : Nat → Nat → F} {l : List St} (h : Rs k M m l) {s : St} (hs : Fine k s) : Rs k M (apM s m) (l ++ [s]) := by
  refine ⟨fun x y => (h.same x y).trans ?_, fun t ht => ?_⟩
  · rw [run_snoc]
    refine (ap_inj hs (fun r => dot k (m r) x) (run l y)).trans ?_
    exact forall_congr' fun i => forall_congr' fun hi => by rw [dot_ap]
  · rcases List.mem_append.1 ht with h1 | h1
    · exact h.fine t h1
    · simp at h1
      subst h1
      exact hs
/-- Nothing but 0 gives 0. -/
def Inj (k : Nat) (M : Nat → Nat → F) : Prop := ∀ x, (∀ i, i < k → dot k (M i) x = 0) → ∀ i, i < k → x i = 0
theorem ap_zero (s : St) (i : Nat) : ap s (fun _ => 0) i = 0 := by
  unfold ap
  split
  · split <;> (try split) <;> rfl
  · split
    · split
      · exact zero_mu _
      · rfl
    · split
      · rw [mu_zero, add_zero]
      · rfl
theorem run_zero : ∀ (l : List St) (i : Nat), run l (fun _ => 0) i = 0
  | [], _ => rfl
  | s :: l, i => by
    rw [run, show ap s (fun _ => 0) = fun _ => 0 from funext fun i => ap_zero s i]
    exact run_zero l i

def UnitTo (k c : Nat) (m : Nat → Nat → F) : Prop := ∀ i s, i < k → s < c → m i s = if s = i then 1 else 0
/-- Some row has something but 0 there. -/
theorem Rs.pivot {k c : Nat} {M m : Nat → Nat → F} {l : List St} (h : Rs k M m l) (hi : Inj k M) (hu : UnitTo k c m) (hc : c < k) : ∃ r, c ≤ r ∧ r < k ∧ m r c ≠ 0 := by
  refine Classical.byContradiction fun hno => ?_
  have hz : ∀ r, c ≤ r → r < k → m r c = 0 := fun r h1 h2 => Classical.byContradiction fun e => hno ⟨r, h1, h2, e⟩
  let x : Nat → F := fun j => if j = c then 1 else if j < c then m j c else 0
  have hx : ∀ i, i < k → dot k (m i) x = 0 := by
    intro i hik
    have split : dot k (m i) x = add (sum (List.range k) fun j => if j = c then m i c else 0) (sum (List.range k) fun j => if j < c then mu (m i j) (m j c) else 0) := by
      rw [← sum_add]
      refine sum_congr fun j hj => ?_
      by_cases e : j = c
      · subst e
        simp only [x, if_true, mu_one, if_neg (Nat.lt_irrefl j), add_zero]
      · by_cases e2 : j < c
        · simp only [x, if_neg e, if_pos e2, zero_add]
        · simp only [x, if_neg e, if_neg e2, mu_zero, add_zero]
    have s1 : (sum (List.range k) fun j => if j = c then m i c else 0) = m i c := by
      rw [sum_single List.nodup_range (t := c) (by simpa using hc) (fun j _ hj => if_neg hj)]
      exact if_pos rfl
    have s2 : (sum (List.range k) fun j => if j < c then mu (m i j) (m j c) else 0) = m i c := by
      by_cases hic : i < c
      · rw [sum_single List.nodup_range (t := i) (by simpa using hik) (fun j hj hne => ?_)]
        · rw [if_pos hic, hu i i hik hic, if_pos rfl, one_mu]
        · split
          · rename_i h2
            rw [hu i j hik h2, if_neg hne, zero_mu]
          · rfl
      · rw [hz i (by omega) hik]
        refine sum_zero _ fun j hj => ?_
        split
        · rename_i h2
          rw [hu i j hik h2, if_neg (by omega), zero_mu]
        · rfl
    rw [split, s1, s2, add_self]
  have h0 := (h.same x (fun _ => 0)).2 fun i hik => by rw [hx i hik, run_zero]
  have := hi x h0 c hc
  simp only [x, if_true] at this
  exact one_ne this

/-- Column c, rows below i done. -/
structure El (k : Nat) (M : Nat → Nat → F) (c i : Nat) (m : Nat → Nat → F) (l : List St) : Prop where
  rs : Rs k M m l
  left : UnitTo k c m
  one : m c c = 1
  cl : ∀ r, r < i → r < k → r ≠ c → m r c = 0
theorem el_start {k c r : Nat} {M m : Nat → Nat → F} {l : List St} (h : Rs k M m l) (hu : UnitTo k c m) (hc : c < k) (hcr : c ≤ r) (hr : r < k) (hne : m r c ≠ 0) :
    El k M c 0 (apM ⟨1, c, c, iv (m r c)⟩ (apM ⟨0, c, r, 0⟩ m)) (l ++ [⟨0, c, r, 0⟩] ++ [⟨1, c, c, iv (m r c)⟩]) := by
  have f1 : Fine k ⟨0, c, r, 0⟩ := ⟨hc, hr, fun e => (by cases e), fun e => absurd rfl e⟩
  have f2 : Fine k ⟨1, c, c, iv (m r c)⟩ := ⟨hc, hc, fun _ => iv_ne hne, fun _ e => absurd rfl e⟩
  refine ⟨(h.step f1).step f2, fun i s hi hs => ?_, ?_, fun r hr => absurd hr (by omega)⟩
  · have hcs : m c s = 0 := by rw [hu c s hc hs, if_neg (by omega)]
    have hrs : m r s = 0 := by rw [hu r s hr hs, if_neg (by omega)]
    by_cases hic : i = c
    · subst hic
      simp [apM, ap, hrs, zero_mu, show s ≠ i by omega]
    · by_cases hir : i = r
      · subst hir
        simp [apM, ap, hic, hcs, show s ≠ i by omega]
      · simp [apM, ap, hic, hir, hu i s hi hs]
  · simp [apM, ap, mu_iv hne]
theorem El.skip {k c i : Nat} {M m : Nat → Nat → F} {l : List St} (h : El k M c i m l) (hs : i = c ∨ m i c = 0) : El k M c (i + 1) m l :=
  ⟨h.rs, h.left, h.one, fun r h1 h2 h3 => by
    by_cases e : r = i
    · subst e
      exact hs.resolve_left h3
    · exact h.cl r (by omega) h2 h3⟩
theorem El.add {k c i : Nat} {M m : Nat → Nat → F} {l : List St} (h : El k M c i m l) (hc : c < k) (hi : i < k) (hic : i ≠ c) : El k M c (i + 1) (apM ⟨2, i, c, m i c⟩ m) (l ++ [⟨2, i, c, m i c⟩]) := by
  have f : Fine k ⟨2, i, c, m i c⟩ := ⟨hi, hc, fun e => (by cases e), fun _ _ => hic⟩
  refine ⟨h.rs.step f, fun r s hr hs => ?_, ?_, fun r h1 h2 h3 => ?_⟩
  · have hcs : m c s = 0 := by rw [h.left c s hc hs, if_neg (by omega)]
    by_cases e : r = i
    · subst e
      simp [apM, ap, hcs, mu_zero, add_zero, h.left r s hr hs]
    · simp [apM, ap, e, h.left r s hr hs]
  · simp [apM, ap, Ne.symm hic, h.one]
  · by_cases e : r = i
    · subst e
      simp [apM, ap, h.one, mu_one, add_self]
    · simp [apM, ap, e, h.cl r (by omega) h2 h3]
theorem El.done {k c : Nat} {M m : Nat → Nat → F} {l : List St} (h : El k M c k m l) (_ : c < k) : UnitTo k (c + 1) m := by
  intro i s hi hs
  by_cases e : s = c
  · subst e
    by_cases e2 : i = s
    · subst e2
      rw [if_pos rfl, h.one]
    · rw [if_neg (Ne.symm e2), h.cl i hi hi e2]
  · exact h.left i s hi (by omega)
/-- What the steps make of a column is what the rows make it of. -/
theorem Rs.told {k : Nat} {M m : Nat → Nat → F} {l : List St} (h : Rs k M m l) (hu : UnitTo k k m) {x y : Nat → F} (hx : ∀ i, i < k → dot k (M i) x = y i) : ∀ i, i < k → run l y i = x i := by
  intro i hi
  rw [← (h.same x y).1 hx i hi]
  exact dot_unit hi fun j hj => by rw [hu i j hi hj]
end F
end Go.Proofs.Ytkpcmfgeanlcnaa

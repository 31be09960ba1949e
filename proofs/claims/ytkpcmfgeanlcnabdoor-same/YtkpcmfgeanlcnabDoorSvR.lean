/-
  Bytes as a field, without conditions; a square of unit rows and of inverses of i exclusive-or j; elimination without exchange.
-/
import Derived.Test.YtkpcmfgeanlcnabDoorField
import Derived.Test.YtkpcmfgeanlcnabDoorLfK
import Derived.Test.YtkpcmfgeanlcnabDoorCoV
import Derived.Test.YtkpcmfgeanlcnabDoorRowW
namespace Go.Proofs.YtkpcmfgeanlcnabDoor

abbrev F := Fin 256
namespace F
def add (a b : F) : F := ⟨a.val ^^^ b.val, xor_lt a.isLt b.isLt⟩
def mu (a b : F) : F := ⟨mul a.val b.val, mul_lt a.isLt⟩
def iv (a : F) : F := ⟨inv a.val, inv_lt a.isLt⟩
theorem add_comm (a b : F) : add a b = add b a := Fin.ext (Nat.xor_comm _ _)
theorem add_assoc (a b c : F) : add (add a b) c = add a (add b c) := Fin.ext (Nat.xor_assoc _ _ _)
theorem add_left (a b c : F) : add a (add b c) = add b (add a c) := by rw [← add_assoc, add_comm a b, add_assoc]
theorem add_self (a : F) : add a a = 0 := Fin.ext (Nat.xor_self _)
theorem add_zero (a : F) : add a 0 = a := Fin.ext (Nat.xor_zero _)
theorem zero_add (a : F) : add 0 a = a := by rw [add_comm, add_zero]
theorem add_self_left (a b : F) : add a (add a b) = b := by rw [← add_assoc, add_self, zero_add]
theorem mu_comm (a b : F) : mu a b = mu b a := Fin.ext (mul_comm a.isLt b.isLt)
theorem mu_assoc (a b c : F) : mu (mu a b) c = mu a (mu b c) := Fin.ext (mul_assoc a.isLt b.isLt c.isLt).symm
theorem mu_left (a b c : F) : mu a (mu b c) = mu b (mu a c) := by rw [← mu_assoc, mu_comm a b, mu_assoc]
theorem mu_add (a b c : F) : mu a (add b c) = add (mu a b) (mu a c) := Fin.ext (mul_xor_right _ _ a.isLt)
theorem add_mu (a b c : F) : mu (add a b) c = add (mu a c) (mu b c) := Fin.ext (mul_xor_left _ a.isLt b.isLt)
theorem mu_zero (a : F) : mu a 0 = 0 := Fin.ext (mul_zero a.val)
theorem zero_mu (a : F) : mu 0 a = 0 := by rw [mu_comm, mu_zero]
theorem mu_one (a : F) : mu a 1 = a := Fin.ext (mul_one a.isLt)
theorem one_mu (a : F) : mu 1 a = a := by rw [mu_comm, mu_one]
theorem mu_iv {a : F} (h : a ≠ 0) : mu a (iv a) = 1 := Fin.ext (mul_inv a.isLt fun e => h (Fin.ext e))
theorem iv_mu {a : F} (h : a ≠ 0) : mu (iv a) a = 1 := by rw [mu_comm, mu_iv h]
theorem one_ne : (1 : F) ≠ 0 := by decide
theorem eq_of_add {a b : F} (h : add a b = 0) : a = b := by
  have := congrArg (add a) h
  rw [add_self_left, add_zero] at this
  exact this.symm
theorem add_ne {a b : F} (h : a ≠ b) : add a b ≠ 0 := fun e => h (eq_of_add e)
theorem mu_cancel {a b c : F} (ha : a ≠ 0) (h : mu a b = mu a c) : b = c := by
  have := congrArg (mu (iv a)) h
  rwa [← mu_assoc, ← mu_assoc, iv_mu ha, one_mu, one_mu] at this
theorem mu_ne {a b : F} (ha : a ≠ 0) (hb : b ≠ 0) : mu a b ≠ 0 := fun e => hb (mu_cancel ha (e.trans (mu_zero a).symm))
theorem iv_ne {a : F} (ha : a ≠ 0) : iv a ≠ 0 := fun e => one_ne (by rw [← mu_iv ha, e, mu_zero])

/-- The one identity. -/
theorem key {u a b z : F} (h1 : add u b ≠ 0) (h2 : add z b ≠ 0) (h3 : add u z ≠ 0) (h4 : add a z ≠ 0) (x : F) :
    add (mu (iv (add u z)) (mu x (mu (add a z) (iv (add z b))))) (mu (mu (add a b) (iv (add u b))) (mu (iv (add a z)) (mu x (mu (add a z) (iv (add z b)))))) = mu (mu (add u a) (iv (add u b))) (mu (iv (add u z)) x) := by
  have e4 : mu (iv (add a z)) (mu x (mu (add a z) (iv (add z b)))) = mu x (iv (add z b)) := by
    rw [mu_left x, ← mu_assoc, iv_mu h4, one_mu]
  rw [e4]
  apply mu_cancel h1
  apply mu_cancel h2
  apply mu_cancel h3
  have t1 : mu (add u z) (mu (add z b) (mu (add u b) (mu (iv (add u z)) (mu x (mu (add a z) (iv (add z b))))))) = mu x (mu (add a z) (add u b)) := by
    calc _ = mu (mu (add u z) (iv (add u z))) (mu (mu (add z b) (iv (add z b))) (mu x (mu (add a z) (add u b)))) := by simp only [mu_comm, mu_left]
      _ = _ := by rw [mu_iv h3, mu_iv h2, one_mu, one_mu]
  have t2 : mu (add u z) (mu (add z b) (mu (add u b) (mu (mu (add a b) (iv (add u b))) (mu x (iv (add z b)))))) = mu x (mu (add a b) (add u z)) := by
    calc _ = mu (mu (add u b) (iv (add u b))) (mu (mu (add z b) (iv (add z b))) (mu x (mu (add a b) (add u z)))) := by simp only [mu_comm, mu_left]
      _ = _ := by rw [mu_iv h1, mu_iv h2, one_mu, one_mu]
  have t3 : mu (add u z) (mu (add z b) (mu (add u b) (mu (mu (add u a) (iv (add u b))) (mu (iv (add u z)) x)))) = mu x (mu (add u a) (add z b)) := by
    calc _ = mu (mu (add u b) (iv (add u b))) (mu (mu (add u z) (iv (add u z))) (mu x (mu (add u a) (add z b)))) := by simp only [mu_comm, mu_left]
      _ = _ := by rw [mu_iv h1, mu_iv h3, one_mu, one_mu]
  rw [mu_add (add u b), mu_add (add z b), mu_add (add u z), t1, t2, t3, ← mu_add]
  refine congrArg (mu x) ?_
  simp only [mu_add, add_mu]
  simp only [mu_comm, add_assoc, add_comm, add_left, add_self_left, add_self, zero_add]

/-- Sums over a list of places. -/
def sum : List Nat → (Nat → F) → F
  | [], _ => 0
  | i :: l, f => add (f i) (sum l f)
theorem sum_congr {l : List Nat} {f g : Nat → F} (h : ∀ i ∈ l, f i = g i) : sum l f = sum l g := by
  induction l with
  | nil => rfl
  | cons i l ih => rw [sum, sum, h i (by simp), ih fun j hj => h j (by simp [hj])]
theorem sum_add (l : List Nat) (f g : Nat → F) : sum l (fun i => add (f i) (g i)) = add (sum l f) (sum l g) := by
  induction l with
  | nil => exact (add_zero 0).symm
  | cons i l ih => simp only [sum, ih, add_assoc, add_left]
theorem sum_mu (l : List Nat) (c : F) (f : Nat → F) : sum l (fun i => mu c (f i)) = mu c (sum l f) := by
  induction l with
  | nil => exact (mu_zero c).symm
  | cons i l ih => rw [sum, sum, ih, mu_add]
theorem sum_zero (l : List Nat) {f : Nat → F} (h : ∀ i ∈ l, f i = 0) : sum l f = 0 := by
  induction l with
  | nil => rfl
  | cons i l ih => rw [sum, h i (by simp), ih fun j hj => h j (by simp [hj]), add_zero]
theorem sum_filter (l : List Nat) (p : Nat → Bool) (f : Nat → F) (h : ∀ i ∈ l, p i = false → f i = 0) : sum (l.filter p) f = sum l f := by
  induction l with
  | nil => rfl
  | cons i l ih =>
    have := ih fun j hj => h j (by simp [hj])
    cases hp : p i with
    | true => rw [List.filter_cons_of_pos (by simp [hp]), sum, sum, this]
    | false => rw [List.filter_cons_of_neg (by simp [hp]), sum, this, h i (by simp) hp, zero_add]
theorem sum_single {l : List Nat} (hl : l.Nodup) {f : Nat → F} {t : Nat} (ht : t ∈ l) (h : ∀ i ∈ l, i ≠ t → f i = 0) : sum l f = f t := by
  induction l with
  | nil => cases ht
  | cons i l ih =>
    rw [List.nodup_cons] at hl
    rw [sum]
    rcases List.mem_cons.1 ht with rfl | ht'
    · rw [sum_zero l fun j hj => h j (by simp [hj]) (fun e => hl.1 (e ▸ hj)), add_zero]
    · rw [h i (by simp) (fun e => hl.1 (e ▸ ht')), zero_add]
      exact ih hl.2 ht' fun j hj hne => h j (by simp [hj]) hne

/-- ████ A square of inverses of sums: whatever the right side, there is a solution. -/
theorem cauchy (a b : Nat → F) : ∀ (V : List Nat), V.Nodup → (∀ s ∈ V, ∀ j ∈ V, a s ≠ b j ∧ (s ≠ j → a s ≠ a j ∧ b s ≠ b j)) → ∀ y : Nat → F, ∃ x : Nat → F, (∀ j, j ∉ V → x j = 0) ∧ ∀ s ∈ V, sum V (fun j => mu (iv (add (a s) (b j))) (x j)) = y s
  | [], _, _, _ => ⟨fun _ => 0, fun _ _ => rfl, fun _ h => by cases h⟩
  | t :: V, hn, hd, y => by
    rw [List.nodup_cons] at hn
    have hd' : ∀ s ∈ V, ∀ j ∈ V, a s ≠ b j ∧ (s ≠ j → a s ≠ a j ∧ b s ≠ b j) := fun s hs j hj => hd s (by simp [hs]) j (by simp [hj])
    have ne : ∀ s ∈ V, t ≠ s := fun s hs e => hn.1 (e ▸ hs)
    let c : Nat → F := fun s => mu (add (a t) (b t)) (iv (add (a s) (b t)))
    let d : Nat → F := fun s => mu (add (a s) (b t)) (iv (add (a s) (a t)))
    obtain ⟨x', hx0, hx⟩ := cauchy a b V hn.2 hd' (fun s => mu (add (y s) (mu (c s) (y t))) (d s))
    let x1 : Nat → F := fun j => mu (x' j) (mu (add (a t) (b j)) (iv (add (b j) (b t))))
    let xt : F := mu (add (a t) (b t)) (add (y t) (sum V fun j => mu (iv (add (a t) (b j))) (x1 j)))
    have htt : add (a t) (b t) ≠ 0 := add_ne (hd t (by simp) t (by simp)).1
    have hsum : ∀ s, sum V (fun j => mu (iv (add (a s) (b j))) (if j = t then xt else x1 j)) = sum V (fun j => mu (iv (add (a s) (b j))) (x1 j)) := fun s => sum_congr fun j hj => by rw [if_neg (fun e => ne j hj e.symm)]
    refine ⟨fun j => if j = t then xt else x1 j, fun j hj => ?_, fun s hs => ?_⟩
    · simp only [List.mem_cons, not_or] at hj
      simp only [if_neg hj.1]
      show mu (x' j) _ = 0
      rw [hx0 j hj.2, zero_mu]
    rw [sum, hsum]
    simp only [if_true]
    by_cases hst : s = t
    · subst hst
      show add (mu (iv (add (a s) (b s))) (mu (add (a s) (b s)) _)) _ = _
      rw [← mu_assoc, iv_mu htt, one_mu, add_assoc, add_self, add_zero]
    · have hsV : s ∈ V := by simpa [hst] using hs
      have hst' : add (a s) (b t) ≠ 0 := add_ne (hd s hs t (by simp)).1
      have hsa : add (a s) (a t) ≠ 0 := add_ne ((hd s hs t (by simp)).2 hst).1
      have e1 : mu (iv (add (a s) (b t))) xt = add (mu (c s) (y t)) (sum V fun j => mu (c s) (mu (iv (add (a t) (b j))) (x1 j))) := by
        rw [sum_mu, ← mu_add]
        show mu (iv (add (a s) (b t))) (mu (add (a t) (b t)) _) = mu (mu (add (a t) (b t)) (iv (add (a s) (b t)))) _
        rw [← mu_assoc, mu_comm (iv _) (add (a t) (b t))]
      have e2 : add (sum V fun j => mu (c s) (mu (iv (add (a t) (b j))) (x1 j))) (sum V fun j => mu (iv (add (a s) (b j))) (x1 j)) = add (y s) (mu (c s) (y t)) := by
        rw [← sum_add]
        have : ∀ j ∈ V, add (mu (c s) (mu (iv (add (a t) (b j))) (x1 j))) (mu (iv (add (a s) (b j))) (x1 j)) = mu (mu (add (a s) (a t)) (iv (add (a s) (b t)))) (mu (iv (add (a s) (b j))) (x' j)) := by
          intro j hj
          rw [add_comm]
          exact key hst' (add_ne ((hd j (by simp [hj]) t (by simp)).2 (fun e => ne j hj e.symm)).2) (add_ne (hd' s hsV j hj).1) (add_ne (hd t (by simp) j (by simp [hj])).1) (x' j)
        rw [sum_congr this, sum_mu, hx s hsV]
        show mu (mu (add (a s) (a t)) (iv (add (a s) (b t)))) (mu _ (mu (add (a s) (b t)) (iv (add (a s) (a t))))) = _
        have : ∀ q p p' r r' : F, mu p p' = 1 → mu r r' = 1 → mu (mu p r') (mu q (mu r p')) = q := fun q p p' r r' hp hr => by
          calc _ = mu (mu p p') (mu (mu r r') q) := by simp only [mu_comm, mu_left]
            _ = q := by rw [hp, hr, one_mu, one_mu]
        exact this _ _ _ _ _ (mu_iv hsa) (mu_iv hst')
      rw [e1, add_assoc, e2, add_left, add_comm (mu _ _) (mu _ _), add_self, add_zero]
end F
end Go.Proofs.YtkpcmfgeanlcnabDoor

/-
  Elimination without exchange: each corner of the square can be solved, so the turns come out.
-/
namespace Go.Proofs.YtkpcmfgeanlcnabDoor
namespace F

/-- A row times a column, of k places. -/
def dot (k : Nat) (r x : Nat → F) : F := sum (List.range k) fun j => mu (r j) (x j)

/-- The square: row s is its own unit row, or a row of inverses of px s exclusive-or j. -/
structure Sq (k : Nat) (px : Nat → F) (M : Nat → Nat → F) : Prop where
  unit : ∀ s, s < k → (px s).val < k → (px s).val = s ∧ ∀ j, j < k → M s j = if j = s then 1 else 0
  inv : ∀ s, s < k → k ≤ (px s).val → ∀ j, j < k → M s j = iv (add (px s) (Fin.ofNat 256 j))
  inj : ∀ s j, s < k → j < k → s ≠ j → px s ≠ px j
  small : k ≤ 256

theorem dot_unit {k : Nat} {r x : Nat → F} {s : Nat} (hs : s < k) (h : ∀ j, j < k → r j = if j = s then 1 else 0) : dot k r x = x s := by
  have := sum_single (l := List.range k) List.nodup_range (f := fun j => mu (r j) (x j)) (t := s) (by simpa using hs) (fun i hi hne => by
    simp only [List.mem_range] at hi
    simp only [h i hi, if_neg hne, zero_mu])
  rw [dot, this]
  simp only [h s hs, if_true, one_mu]

theorem corner {k : Nat} {px : Nat → F} {M : Nat → Nat → F} (h : Sq k px M) {t : Nat} (ht : t < k) : ∃ x : Nat → F, (∀ j, t < j → x j = 0) ∧ (∀ s, s < t → dot k (M s) x = 0) ∧ dot k (M t) x = 1 := by
  let b : Nat → F := fun j => Fin.ofNat 256 j
  have bv : ∀ j, j < k → (b j).val = j := fun j hj => Nat.mod_eq_of_lt (Nat.lt_of_lt_of_le hj h.small)
  have key : ∀ (V : List Nat), V.Nodup → (∀ s ∈ V, s < k ∧ k ≤ (px s).val) → ∀ y : Nat → F, ∃ x : Nat → F, (∀ j, j ∉ V → x j = 0) ∧ ∀ s ∈ V, sum V (fun j => mu (iv (add (px s) (b j))) (x j)) = y s := fun V hn hV y =>
    cauchy px b V hn (fun s hs j hj => ⟨fun e => by
      have := congrArg Fin.val e
      rw [bv j (hV j hj).1] at this
      have := (hV s hs).2
      have := (hV j hj).1
      omega, fun hne => ⟨h.inj s j (hV s hs).1 (hV j hj).1 hne, fun e => hne (by have := congrArg Fin.val e; rwa [bv s (hV s hs).1, bv j (hV j hj).1] at this)⟩⟩) y
  -- a sum over the places of V is the sum over all
  have full : ∀ (p : Nat → Bool) (x : Nat → F) (s : Nat), s < k → k ≤ (px s).val → (∀ j, j ∉ (List.range k).filter p → x j = 0) → dot k (M s) x = sum ((List.range k).filter p) (fun j => mu (iv (add (px s) (b j))) (x j)) := fun p x s hs hp hx => by
    rw [sum_filter, dot]
    · exact sum_congr fun j hj => by rw [h.inv s hs hp j (by simpa using hj)]
    · intro j hj hpj
      rw [hx j (by simp [hpj]), mu_zero]
  by_cases htu : (px t).val < k
  · -- row t is a unit row
    let p : Nat → Bool := fun s => decide (s < t) && decide (k ≤ (px s).val)
    obtain ⟨x, hx0, hx⟩ := key ((List.range k).filter p) (List.nodup_range.filter _) (fun s hs => by simp [p] at hs; omega) (fun s => iv (add (px s) (b t)))
    have hxt : x t = 0 := hx0 t (by simp [p])
    have split : ∀ s, dot k (M s) (fun j => if j = t then 1 else x j) = add (dot k (M s) x) (M s t) := fun s => by
      have e1 : ∀ j ∈ List.range k, mu (M s j) (if j = t then 1 else x j) = add (mu (M s j) (x j)) (if j = t then M s t else 0) := fun j _ => by
        by_cases hj : j = t
        · subst hj
          simp only [if_true, hxt, mu_zero, zero_add, mu_one]
        · simp only [if_neg hj, add_zero]
      rw [dot, sum_congr e1, sum_add]
      congr 1
      rw [sum_single (l := List.range k) List.nodup_range (t := t) (by simpa using ht) (fun i _ hne => by simp only [if_neg hne])]
      simp only [if_true]
    refine ⟨fun j => if j = t then 1 else x j, fun j hj => ?_, fun s hs => ?_, ?_⟩
    · simp only [if_neg (show j ≠ t by omega)]
      exact hx0 j (by simp [p]; omega)
    · by_cases hsu : (px s).val < k
      · rw [dot_unit (by omega) (h.unit s (by omega) hsu).2]
        simp only [if_neg (show s ≠ t by omega)]
        exact hx0 s (by simp [p]; omega)
      · have hsV : s ∈ (List.range k).filter p := by simp [p]; omega
        rw [split, full p x s (by omega) (by omega) hx0, hx s hsV, h.inv s (by omega) (by omega) t ht]
        exact add_self _
    · rw [dot_unit ht (h.unit t ht htu).2]
      simp only [if_true]
  · let p : Nat → Bool := fun s => decide (s ≤ t) && decide (k ≤ (px s).val)
    obtain ⟨x, hx0, hx⟩ := key ((List.range k).filter p) (List.nodup_range.filter _) (fun s hs => by simp [p] at hs; omega) (fun s => if s = t then 1 else 0)
    refine ⟨x, fun j hj => hx0 j (by simp [p]; omega), fun s hs => ?_, ?_⟩
    · by_cases hsu : (px s).val < k
      · rw [dot_unit (by omega) (h.unit s (by omega) hsu).2]
        exact hx0 s (by simp [p]; omega)
      · rw [full p x s (by omega) (by omega) hx0, hx s (by simp [p]; omega)]
        simp only [if_neg (show s ≠ t by omega)]
    · rw [full p x t ht (by omega) hx0, hx t (by simp [p]; omega)]
      simp only [if_true]

/-- What the elimination keeps, ahead of turn t. -/
structure Gj (k : Nat) (M : Nat → Nat → F) (t : Nat) (A B : Nat → Nat → F) : Prop where
  same : ∀ x y : Nat → F, (∀ i, i < k → dot k (A i) x = dot k (B i) y) ↔ ∀ i, i < k → dot k (M i) x = y i
  left : ∀ i s, i < k → s < t → A i s = if s = i then 1 else 0
  right : ∀ i s, i < k → t ≤ s → s < k → B i s = if s = i then 1 else 0

theorem gj_start (k : Nat) (M : Nat → Nat → F) : Gj k M 0 M (fun i j => if j = i then 1 else 0) :=
  ⟨fun x y => forall_congr' fun i => forall_congr' fun hi => by rw [dot_unit (r := fun j => if j = i then 1 else 0) hi fun _ _ => rfl],
   fun _ _ _ h => absurd h (by omega), fun _ _ _ _ _ => rfl⟩

theorem pivot {k : Nat} {px : Nat → F} {M A B : Nat → Nat → F} {t : Nat} (h : Sq k px M) (hg : Gj k M t A B) (ht : t < k) : A t t ≠ 0 := by
  obtain ⟨x, hx0, hxs, hxt⟩ := corner h ht
  have := (hg.same x (fun i => dot k (M i) x)).2 (fun _ _ => rfl) t ht
  have e1 : dot k (A t) x = mu (A t t) (x t) := sum_single List.nodup_range (by simpa using ht) fun i hi hne => by
    rcases Nat.lt_or_ge i t with hlt | hge
    · rw [hg.left t i ht hlt, if_neg hne, zero_mu]
    · rw [hx0 i (by omega), mu_zero]
  have e2 : dot k (B t) (fun i => dot k (M i) x) = 1 := by
    have e3 : dot k (B t) (fun i => dot k (M i) x) = mu (B t t) (dot k (M t) x) := sum_single List.nodup_range (by simpa using ht) fun i hi hne => by
      rcases Nat.lt_or_ge i t with hlt | hge
      · show mu (B t i) (dot k (M i) x) = 0
        rw [hxs i hlt, mu_zero]
      · rw [hg.right t i ht hge (by simpa using hi), if_neg hne, zero_mu]
    rw [e3, hxt, hg.right t t ht (Nat.le_refl _) ht]
    simp only [if_true, mu_one]
  rw [e1, e2] at this
  intro e
  rw [e, zero_mu] at this
  exact one_ne this.symm

def scaled (c : F) (r : Nat → F) : Nat → F := fun j => mu (r j) c
def added (c : F) (r q : Nat → F) : Nat → F := fun j => add (r j) (mu (q j) c)
theorem dot_scaled (k : Nat) (c : F) (r x : Nat → F) : dot k (scaled c r) x = mu c (dot k r x) := by
  rw [dot, dot, ← sum_mu]
  exact sum_congr fun j _ => by simp only [scaled, mu_comm, mu_left]
theorem dot_added (k : Nat) (c : F) (r q x : Nat → F) : dot k (added c r q) x = add (dot k r x) (mu c (dot k q x)) := by
  rw [dot, dot, dot, ← sum_mu, ← sum_add]
  exact sum_congr fun j _ => by
    rw [added, add_mu]
    simp only [mu_comm, mu_left]

/-- The rows behind turn t. -/
def turnA (A : Nat → Nat → F) (t i : Nat) : Nat → F := if i = t then scaled (iv (A t t)) (A t) else added (A i t) (A i) (scaled (iv (A t t)) (A t))
def turnB (A B : Nat → Nat → F) (t i : Nat) : Nat → F := if i = t then scaled (iv (A t t)) (B t) else added (A i t) (B i) (scaled (iv (A t t)) (B t))

theorem gj_turn {k : Nat} {px : Nat → F} {M A B : Nat → Nat → F} {t : Nat} (h : Sq k px M) (hg : Gj k M t A B) (ht : t < k) : Gj k M (t + 1) (turnA A t) (turnB A B t) := by
  have hp := pivot h hg ht
  refine ⟨fun x y => ?_, fun i s hi hs => ?_, fun i s hi hs hs' => ?_⟩
  · rw [← hg.same x y]
    constructor
    · intro e i hi
      have et := e t ht
      simp only [turnA, turnB, if_true, dot_scaled] at et
      have et' := mu_cancel (iv_ne hp) et
      by_cases hit : i = t
      · subst hit; exact et'
      · have ei := e i hi
        simp only [turnA, turnB, if_neg hit, dot_added, dot_scaled, et'] at ei
        have := congrArg (add (mu (A i t) (mu (iv (A t t)) (dot k (B t) y)))) ei
        rwa [add_left, add_self, add_zero, add_left, add_self, add_zero] at this
    · intro e i hi
      by_cases hit : i = t
      · subst hit
        simp only [turnA, turnB, if_true, dot_scaled, e i hi]
      · simp only [turnA, turnB, if_neg hit, dot_added, dot_scaled, e i hi, e t ht]
  · have tt : ∀ s, s < t + 1 → scaled (iv (A t t)) (A t) s = if s = t then 1 else 0 := fun s hs => by
      by_cases hst : s = t
      · subst hst
        simp only [scaled, if_true, mu_iv hp]
      · simp only [scaled, hg.left t s ht (by omega), if_neg hst, zero_mu]
    by_cases hit : i = t
    · subst hit
      simp only [turnA, if_true]
      exact tt s hs
    · simp only [turnA, if_neg hit, added, tt s hs]
      by_cases hst : s = t
      · subst hst
        simp only [if_true, one_mu, add_self]
        rw [if_neg (fun e => hit e.symm)]
      · simp only [if_neg hst, zero_mu, add_zero]
        exact hg.left i s hi (by omega)
  · have tt : ∀ s, t + 1 ≤ s → s < k → scaled (iv (A t t)) (B t) s = 0 := fun s hs hs' => by
      simp only [scaled, hg.right t s ht (by omega) hs', if_neg (show s ≠ t by omega), zero_mu]
    by_cases hit : i = t
    · subst hit
      simp only [turnB, if_true]
      rw [tt s hs hs', if_neg (by omega)]
    · simp only [turnB, if_neg hit, added, tt s hs hs', zero_mu, add_zero]
      exact hg.right i s hi (by omega) hs'

/-- ████ At the end: what the right side makes of y, the square makes y again. -/
theorem gj_end {k : Nat} {M A B : Nat → Nat → F} (hg : Gj k M k A B) (y : Nat → F) : ∀ i, i < k → dot k (M i) (fun j => dot k (B j) y) = y i := by
  refine (hg.same (fun j => dot k (B j) y) y).1 fun i hi => ?_
  rw [dot_unit hi fun j hj => by rw [hg.left i j hi hj]]
end F
end Go.Proofs.YtkpcmfgeanlcnabDoor

/-
  A world with its windows shut; what the elimination says of bytes.
-/
namespace Go.Lf
open Go.Conc

def isGh : Obj → Bool
  | .view a _ => !a.spot.isSome
  | .pending .. => true
  | _ => false
def shut : Obj → Obj
  | .view _ t => .view ⟨0, 0, some default⟩ t
  | .pending .. => .stringIter .empty 0
  | o => o
def empt : Obj → Obj
  | .cells _ t fr => .cells #[] t fr
  | o => o
theorem isGh_no {o : Obj} (h : isGh o = false) : NoView o := by
  cases o <;> first | trivial | (simp [isGh] at h; exact h) | cases h
theorem isGh_yes {o : Obj} (h : isGh o = true) : Ghost o (shut o) := by
  cases o <;> first | exact .inl ⟨_, _, rfl, rfl⟩ | exact .inr ⟨_, _, rfl, rfl⟩ | cases h

end Go.Lf

namespace Go.Proofs.YtkpcmfgeanlcnabDoor
theorem sum_snoc (n : Nat) (f : Nat → F) : F.sum (List.range (n + 1)) f = F.add (F.sum (List.range n) f) (f n) := by
  have key : ∀ (l : List Nat) (x : Nat), F.sum (l ++ [x]) f = F.add (F.sum l f) (f x) := fun l x => by
    induction l with
    | nil => simp only [List.nil_append, F.sum]; rw [F.add_zero, F.zero_add]
    | cons y l ih => simp only [List.cons_append, F.sum, ih, F.add_assoc]
  rw [List.range_succ, key]

/-- Columns added up, at one place. -/
theorem comb_get (w : Nat → Nat) (c : Nat → List Nat) (L m : Nat) (hm : m < L) (hc : ∀ j, (c j).length = L) : ∀ n : Nat,
    (comb ((List.range n).map fun j => (w j, c j)) (List.replicate L 0)).getD m 0 = Nat.rec (motive := fun _ => Nat) 0 (fun j r => r ^^^ mul ((c j).getD m 0) (w j)) n
  | 0 => by
    show (List.replicate L 0).getD m 0 = 0
    simp [hm]
  | n + 1 => by
    rw [List.range_succ, List.map_append]
    simp only [List.map_cons, List.map_nil]
    rw [comb_snoc]
    have hl : (comb ((List.range n).map fun j => (w j, c j)) (List.replicate L 0)).length = L := by rw [comb_length]; simp
    have ih := comb_get w c L m hm hc n
    have key : ∀ (f : Nat) (xs ys : List Nat) (m : Nat), m < xs.length → m < ys.length → (addT f xs ys).getD m 0 = xs.getD m 0 ^^^ mul (ys.getD m 0) f := by
      intro f xs
      induction xs with
      | nil => intro ys m h; simp at h
      | cons x xs ihx =>
        intro ys m h h'
        cases ys with
        | nil => simp at h'
        | cons y ys =>
          cases m with
          | zero => simp [addT]
          | succ m =>
            simp only [addT, List.getD_cons_succ]
            exact ihx ys m (by simpa using h) (by simpa using h')
    rw [key _ _ _ m (by rw [hl]; exact hm) (by rw [hc]; exact hm), ih]
theorem rec_dot (K : Nat) (R X : Nat → F) : ∀ n, Nat.rec (motive := fun _ => Nat) 0 (fun j r => r ^^^ mul (X j).val (R j).val) n = (F.sum (List.range n) fun j => F.mu (R j) (X j)).val
  | 0 => rfl
  | n + 1 => by
    rw [sum_snoc]
    show _ ^^^ _ = (F.sum (List.range n) fun j => F.mu (R j) (X j)).val ^^^ (F.mu (R n) (X n)).val
    rw [← rec_dot K R X n, F.mu_comm]
    rfl
end Go.Proofs.YtkpcmfgeanlcnabDoor

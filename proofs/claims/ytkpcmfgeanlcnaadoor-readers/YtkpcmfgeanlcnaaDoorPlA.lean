/-
  How the program reads a shard, in plain words: bytes that stand in others, their numbers, sums, words; the numbers of a head; the blobs of a manifest.
-/
import Derived.Test.YtkpcmfgeanlcnaaDoorPrC
import Derived.Test.YtkpcmfgeanlcnaaDoorScanK
import Derived.Test.YtkpcmfgeanlcnaaDoorWrD
namespace Go.Proofs.YtkpcmfgeanlcnaaDoor

/-- These bytes stand there. -/
def At (Z : List UInt8) (a : Nat) (t : List UInt8) : Prop := a + t.length ≤ Z.length ∧ ∀ i, i < t.length → bAt Z (a + i) = bAt t i
theorem At.more {Z t : List UInt8} {a : Nat} (h : At Z a t) (x : List UInt8) : At (Z ++ x) a t := by
  refine ⟨by simp; have := h.1; omega, fun i hi => ?_⟩
  rw [← h.2 i hi]
  have := h.1
  simp only [bAt, List.getD_eq_getElem?_getD]
  rw [List.getElem?_append_left (by omega)]
theorem ext_bAt {p q : List UInt8} (hl : p.length = q.length) (h : ∀ i, i < p.length → bAt p i = bAt q i) : p = q := by
  apply List.ext_getElem hl
  intro i h1 h2
  have := h i h1
  simp only [bAt, List.getD_eq_getElem?_getD, List.getElem?_eq_getElem h1, List.getElem?_eq_getElem h2, Option.getD_some] at this
  exact UInt8.toNat_inj.1 this
theorem At.num {Z t : List UInt8} {a : Nat} (h : At Z a t) : ∀ n j, j + n ≤ t.length → le Z (a + j) n = le t j n
  | 0, _, _ => rfl
  | n + 1, j, hj => by
    show bAt Z (a + j) + 256 * le Z (a + j + 1) n = bAt t j + 256 * le t (j + 1) n
    rw [h.2 j (by omega), Nat.add_assoc, At.num h n (j + 1) (by omega)]
theorem At.cut {Z t : List UInt8} {a : Nat} (h : At Z a t) {j n : Nat} (hn : j + n ≤ t.length) : part Z (a + j) n = part t j n := by
  have := h.1
  apply ext_bAt
  · rw [part_length (by omega), part_length hn]
  · intro i hi
    rw [part_length (by omega)] at hi
    rw [part_at hi, part_at hi, Nat.add_assoc, h.2 (j + i) (by omega)]
theorem At.of_part (t : List UInt8) {j n : Nat} (hn : j + n ≤ t.length) : At t j (part t j n) := by
  refine ⟨by rw [part_length hn]; exact hn, fun i hi => ?_⟩
  rw [part_length hn] at hi
  rw [part_at hi]
theorem At.trans {Z t u : List UInt8} {a b : Nat} (h : At Z a t) (k : At t b u) : At Z (a + b) u := by
  have h1 := h.1
  have h2 := k.1
  refine ⟨by omega, fun i hi => ?_⟩
  rw [Nat.add_assoc, h.2 (b + i) (by omega), k.2 i hi]
theorem le_part {t : List UInt8} {j n : Nat} (hn : j + n ≤ t.length) : le (part t j n) 0 n = le t j n := by
  have h := (At.of_part t hn).num n 0 (by rw [part_length hn]; omega)
  rw [← h]; rfl
theorem bAt_cons (c : UInt8) (l : List UInt8) (i : Nat) : bAt (c :: l) (i + 1) = bAt l i := by simp [bAt]
theorem le_cons (c : UInt8) (l : List UInt8) : ∀ n a, le (c :: l) (a + 1) n = le l a n
  | 0, _ => rfl
  | n + 1, a => by
    show bAt (c :: l) (a + 1) + 256 * le (c :: l) (a + 1 + 1) n = bAt l a + 256 * le l (a + 1) n
    rw [bAt_cons, le_cons c l n (a + 1)]
theorem le_leB : ∀ n v, le (leB n v) 0 n = v % 256 ^ n
  | 0, v => by simp [le, Nat.mod_one]
  | n + 1, v => by
    show bAt (UInt8.ofNat (v % 256) :: leB n (v / 256)) 0 + 256 * le (UInt8.ofNat (v % 256) :: leB n (v / 256)) (0 + 1) n = _
    rw [le_cons, le_leB n (v / 256)]
    have : bAt (UInt8.ofNat (v % 256) :: leB n (v / 256)) 0 = v % 256 := by
      simp [bAt]
    rw [this, Nat.pow_succ, Nat.mul_comm (256 ^ n), Nat.mod_mul]
theorem leB_le : ∀ (p : List UInt8), leB p.length (le p 0 p.length) = p
  | [] => rfl
  | c :: p => by
    have h : le (c :: p) 0 (p.length + 1) = c.toNat + 256 * le p 0 p.length := by
      show bAt (c :: p) 0 + 256 * le (c :: p) (0 + 1) p.length = _
      rw [le_cons]; rfl
    have hc := UInt8.toNat_lt c
    show UInt8.ofNat (le (c :: p) 0 (p.length + 1) % 256) :: leB p.length (le (c :: p) 0 (p.length + 1) / 256) = _
    rw [h, show (c.toNat + 256 * le p 0 p.length) % 256 = c.toNat by omega, show (c.toNat + 256 * le p 0 p.length) / 256 = le p 0 p.length by omega, leB_le p]
    simp
theorem sum_eq {p : List UInt8} {s : Nat} (hp : p.length = 8) (hs : s < 2 ^ 64) : p = leB 8 s ↔ s = le p 0 8 := by
  constructor
  · intro h
    rw [h, le_leB, Nat.mod_eq_of_lt (by simpa using hs)]
  · intro h
    have := leB_le p
    rw [hp] at this
    rw [h, this]
theorem At.seal {Z t : List UInt8} {a n : Nat} (h : At Z a t) (ht : t.length = n + 8) : sealE Z a n = if sumOf (part t 0 n) = le (part t n 8) 0 8 then none else some (6, a + n) := by
  have h1 := h.1
  unfold sealE
  rw [if_neg (by omega), h.cut (j := n) (n := 8) (by omega)]
  have h2 := h.cut (j := 0) (n := n) (by omega)
  rw [Nat.add_zero] at h2
  rw [h2]
  have := sum_eq (p := part t n 8) (s := sumOf (part t 0 n)) (part_length (by omega)) (sumOf_lt _)
  by_cases q : part t n 8 = leB 8 (sumOf (part t 0 n))
  · rw [if_pos q, if_pos (this.1 q)]
  · rw [if_neg q, if_neg (fun x => q (this.2 x))]
theorem seal_short {Z : List UInt8} {a n : Nat} (h : Z.length < a + n + 8) : sealE Z a n = some (4, Z.length) := by
  unfold sealE
  rw [if_pos h]

theorem fixE_some (Z : List UInt8) : ∀ (ws : List UInt8) (a i : Nat), i < ws.length → a + i < Z.length → (∀ j, j < i → bAt Z (a + j) = (ws.getD j 0).toNat) → bAt Z (a + i) ≠ (ws.getD i 0).toNat → fixE Z a ws = some (5, a + i)
  | [], _, _, h, _, _, _ => by simp at h
  | c :: ws, a, 0, _, h2, _, h4 => by
    unfold fixE
    rw [if_neg (by omega), if_neg (by simpa using h4)]; rfl
  | c :: ws, a, i + 1, h1, h2, h3, h4 => by
    have h0 := h3 0 (by omega)
    unfold fixE
    rw [if_neg (by omega), if_pos (by simpa using h0)]
    rw [fixE_some Z ws (a + 1) i (by simpa using h1) (by omega) (fun j hj => ?_) ?_, show a + 1 + i = a + (i + 1) by omega]
    · rw [show a + 1 + i = a + (i + 1) by omega]; simpa using h4
    · have := h3 (j + 1) (by omega)
      rw [show a + 1 + j = a + (j + 1) by omega, this]; simp
theorem fixE_none (Z : List UInt8) : ∀ (ws : List UInt8) (a : Nat), (∀ j, j < ws.length → a + j < Z.length ∧ bAt Z (a + j) = (ws.getD j 0).toNat) → fixE Z a ws = none
  | [], _, _ => rfl
  | c :: ws, a, h => by
    have h0 := h 0 (by simp)
    unfold fixE
    rw [if_neg (by omega), if_pos (by simpa using h0.2)]
    refine fixE_none Z ws (a + 1) (fun j hj => ?_)
    have := h (j + 1) (by simpa using hj)
    rw [show a + 1 + j = a + (j + 1) by omega]
    exact ⟨this.1, by rw [this.2]; simp⟩
theorem fixE_short (Z : List UInt8) : ∀ (ws : List UInt8) (a d : Nat), d < ws.length → Z.length = a + d → (∀ j, j < d → bAt Z (a + j) = (ws.getD j 0).toNat) → fixE Z a ws = some (4, Z.length)
  | [], _, _, h, _, _ => by simp at h
  | c :: ws, a, 0, _, h2, _ => by
    unfold fixE
    rw [if_pos (by omega)]
  | c :: ws, a, d + 1, h1, h2, h3 => by
    have h0 := h3 0 (by omega)
    unfold fixE
    rw [if_neg (by omega), if_pos (by simpa using h0)]
    refine fixE_short Z ws (a + 1) d (by simpa using h1) (by omega) (fun j hj => ?_)
    have := h3 (j + 1) (by omega)
    rw [show a + 1 + j = a + (j + 1) by omega, this]; simp
theorem begE_some_iff {l ws : List UInt8} {c : Nat} : begE l ws = some c ↔ c < min ws.length l.length ∧ (∀ i, i < c → bAt l i = (ws.getD i 0).toNat) ∧ bAt l c ≠ (ws.getD c 0).toNat := by
  unfold begE
  rw [List.find?_range_eq_some]
  constructor
  · rintro ⟨h1, h2, h3⟩
    exact ⟨by simpa using h2, fun i hi => by simpa using h3 i hi, by simpa using h1⟩
  · rintro ⟨h1, h2, h3⟩
    exact ⟨by simpa using h3, by simpa using h1, fun i hi => by simpa using h2 i hi⟩
theorem begE_none_iff {l ws : List UInt8} : begE l ws = none ↔ ∀ i, i < min ws.length l.length → bAt l i = (ws.getD i 0).toNat := by
  unfold begE
  rw [List.find?_eq_none]
  constructor
  · intro h i hi
    have := h i (by simpa using hi)
    simpa using this
  · intro h i hi
    have := h i (by simpa using hi)
    simpa using this
theorem At.fix_some {Z t ws : List UInt8} {a i : Nat} (h : At Z a t) (hb : begE t ws = some i) : fixE Z a ws = some (5, a + i) := by
  obtain ⟨h1, h2, h3⟩ := begE_some_iff.1 hb
  have h4 := h.1
  refine fixE_some Z ws a i (by omega) (by omega) (fun j hj => ?_) ?_
  · rw [h.2 j (by omega)]; exact h2 j hj
  · rw [h.2 i (by omega)]; exact h3
theorem At.fix_none {Z t ws : List UInt8} {a : Nat} (h : At Z a t) (hb : begE t ws = none) (hl : ws.length ≤ t.length) : fixE Z a ws = none := by
  have h1 := begE_none_iff.1 hb
  have h4 := h.1
  refine fixE_none Z ws a (fun j hj => ⟨by omega, ?_⟩)
  rw [h.2 j (by omega)]; exact h1 j (by omega)
theorem At.fix_short {Z t ws : List UInt8} {a : Nat} (h : At Z a t) (hb : begE t ws = none) (hl : t.length < ws.length) (hz : Z.length = a + t.length) : fixE Z a ws = some (4, Z.length) := by
  have h1 := begE_none_iff.1 hb
  refine fixE_short Z ws a t.length hl hz (fun j hj => ?_)
  rw [h.2 j hj]; exact h1 j (by omega)

/-- The first of the numbers that is too small or too great: its place. -/
def numsE : List (Nat × Nat × Int × Int) → Option Nat
  | [] => none
  | (p, v, lo, hi) :: r => if (v : Int) < lo ∨ hi < (v : Int) then some p else numsE r
theorem orE_assoc (a b c : Option (Nat × Nat)) : orE (orE a b) c = orE a (orE b c) := by cases a <;> rfl
theorem numsE_cons (p v : Nat) (lo hi : Int) (r : List (Nat × Nat × Int × Int)) (ok : Bool) (h : ok = true ↔ lo ≤ (v : Int) ∧ (v : Int) ≤ hi) : (numsE ((p, v, lo, hi) :: r)).map (fun x => (1, x)) = orE (mustE ok 1 p) ((numsE r).map (fun x => (1, x))) := by
  cases ok with
  | true =>
    have := h.1 rfl
    show (if (v : Int) < lo ∨ hi < (v : Int) then some p else numsE r).map (fun x => (1, x)) = _
    rw [if_neg (by omega)]; rfl
  | false =>
    have : ¬ (lo ≤ (v : Int) ∧ (v : Int) ≤ hi) := fun x => by have := h.2 x; cases this
    show (if (v : Int) < lo ∨ hi < (v : Int) then some p else numsE r).map (fun x => (1, x)) = _
    rw [if_pos (by omega)]; rfl
theorem headR_nums (k n i z c m ln zz : Nat) : headR none k n i z c m ln zz = (numsE [(6, k, 1, 128), (7, n, (k : Int), 128), (8, i, 0, (n : Int) - 1), (9, z, 0, 0), (10, c, 1, 65536), (14, m, 4, 300000), (18, ln, 0, 65536), (22, zz, 0, 0)]).map (fun x => (1, x)) := by
  rw [numsE_cons _ _ _ _ _ (decide (1 ≤ k ∧ k ≤ 128)) (by simp; omega), numsE_cons _ _ _ _ _ (decide (k ≤ n ∧ n ≤ 128)) (by simp; omega), numsE_cons _ _ _ _ _ (decide (i < n)) (by simp; omega), numsE_cons _ _ _ _ _ (decide (z = 0)) (by simp), numsE_cons _ _ _ _ _ (decide (1 ≤ c ∧ c ≤ 65536)) (by simp; omega), numsE_cons _ _ _ _ _ (decide (4 ≤ m ∧ m ≤ 300000)) (by simp; omega), numsE_cons _ _ _ _ _ (decide (ln ≤ 65536)) (by simp; omega), numsE_cons _ _ _ _ _ (decide (zz = 0)) (by simp)]
  unfold headR
  simp only [orE_assoc]
  have : (Option.map (fun x => (1, x)) (numsE [])) = (none : Option (Nat × Nat)) := rfl
  rw [this]
  have o : ∀ r : Option (Nat × Nat), orE r none = r := fun r => by cases r <;> rfl
  rw [o]
  rfl

/-- A blob of a manifest, from a place on: its name and its size, or where it is wrong. -/
def blob1 (u : List UInt8) (a : Nat) (ns : List (List UInt8)) (zs : List Nat) : Except Nat (List UInt8 × Nat) :=
  if u.length < a + 6 ∨ le u a 2 < 1 ∨ 255 < le u a 2 ∨ u.length < a + 6 + le u a 2 then .error a
  else if 0 < ns.length ∧ notBehind (part u (a + 2) (le u a 2)) (ns.getD (ns.length - 1) []) = true then .error (a + 2)
  else if 65536 < zs.sum + le u (a + 2 + le u a 2) 4 then .error (a + 2 + le u a 2)
  else .ok (part u (a + 2) (le u a 2), le u (a + 2 + le u a 2) 4)
def loopP (u : List UInt8) : Nat → Nat → List (List UInt8) → List Nat → Except Nat (List (List UInt8) × List Nat)
  | 0, a, ns, zs => if a < u.length then .error a else .ok (ns, zs)
  | c + 1, a, ns, zs => match blob1 u a ns zs with
    | .error p => .error p
    | .ok (nm, z) => loopP u c (a + (6 + nm.length)) (ns ++ [nm]) (zs ++ [z])
def listP (u : List UInt8) : Except Nat (List (List UInt8) × List Nat) := if 1000 < le u 0 4 then .error 0 else loopP u (le u 0 4) 4 [] []
def upE (b : Nat) (r : Except Nat (List (List UInt8) × List Nat)) : Except (Nat × Nat) (List (List UInt8) × List Nat) :=
  match r with
  | .error p => .error (7, b + p)
  | .ok x => .ok x
theorem loop_blobs {Z u : List UInt8} {m : Nat} (h : At Z 32 u) (hu : u.length = m) : ∀ (c a : Nat) (ns : List (List UInt8)) (zs : List Nat), a ≤ m → zs.sum ≤ 65536 → endE (32 + m) (blobsE Z (32 + m) c (32 + a) ns zs) = upE 32 (loopP u c a ns zs)
  | 0, a, ns, zs, ha, _ => by
    unfold blobsE loopP
    simp only [endE]
    by_cases q : a < u.length
    · rw [if_pos q, if_neg (by omega)]; rfl
    · rw [if_neg q, if_pos (by omega)]; rfl
  | c + 1, a, ns, zs, ha, hz => by
    unfold blobsE loopP
    by_cases q0 : u.length < a + 6
    · have hb : blob1 u a ns zs = .error a := by unfold blob1; rw [if_pos (.inl q0)]
      rw [hb]
      by_cases q1 : 32 + m < 32 + a + 2
      · rw [if_pos q1]; rfl
      · rw [if_neg q1, if_pos (by right; right; omega)]; rfl
    · have e2 : le Z (32 + a) 2 = le u a 2 := h.num 2 a (by omega)
      rw [if_neg (by omega), e2]
      by_cases q1 : le u a 2 < 1 ∨ 255 < le u a 2 ∨ u.length < a + 6 + le u a 2
      · have hb : blob1 u a ns zs = .error a := by unfold blob1; rw [if_pos (.inr q1)]
        rw [hb, if_pos (by omega)]; rfl
      · have e3 : part Z (32 + a + 2) (le u a 2) = part u (a + 2) (le u a 2) := by rw [Nat.add_assoc]; exact h.cut (by omega)
        have e4 : le Z (32 + a + 2 + le u a 2) 4 = le u (a + 2 + le u a 2) 4 := by
          rw [show 32 + a + 2 + le u a 2 = 32 + (a + 2 + le u a 2) by omega]; exact h.num 4 _ (by omega)
        rw [if_neg (by omega), e3, e4]
        by_cases q2 : 0 < ns.length ∧ notBehind (part u (a + 2) (le u a 2)) (ns.getD (ns.length - 1) []) = true
        · have hb : blob1 u a ns zs = .error (a + 2) := by unfold blob1; rw [if_neg (by omega), if_pos q2]
          rw [hb, if_pos q2]; simp only [endE, upE]; rw [Nat.add_assoc]
        · rw [if_neg q2]
          have hs : 65536 < totalS (zs ++ [le u (a + 2 + le u a 2) 4]) ↔ 65536 < zs.sum + le u (a + 2 + le u a 2) 4 := by
            unfold totalS
            simp only [List.sum_append, List.sum_cons, List.sum_nil, Nat.add_zero]
            split <;> omega
          by_cases q3 : 65536 < zs.sum + le u (a + 2 + le u a 2) 4
          · have hb : blob1 u a ns zs = .error (a + 2 + le u a 2) := by unfold blob1; rw [if_neg (by omega), if_neg q2, if_pos q3]
            rw [hb, if_pos (hs.2 q3)]; simp only [endE, upE]; rw [show 32 + a + 2 + le u a 2 = 32 + (a + 2 + le u a 2) by omega]
          · have hb : blob1 u a ns zs = .ok (part u (a + 2) (le u a 2), le u (a + 2 + le u a 2) 4) := by unfold blob1; rw [if_neg (by omega), if_neg q2, if_neg q3]
            rw [hb, if_neg (fun x => q3 (hs.1 x))]
            simp only
            have hl : (part u (a + 2) (le u a 2)).length = le u a 2 := part_length (by omega)
            rw [show 32 + a + 6 + le u a 2 = 32 + (a + (6 + (part u (a + 2) (le u a 2)).length)) by rw [hl]; omega]
            exact loop_blobs h hu c _ _ _ (by rw [hl]; omega) (by simp; omega)
end Go.Proofs.YtkpcmfgeanlcnaaDoor

/-
  Two sorted rows made one, in plain words.
-/
import Derived.Test.YtkpcmfgeanlcnabDoorHpC
import Derived.Test.YtkpcmfgeanlcnabDoorEnC
import Derived.Test.YtkpcmfgeanlcnabDoorEnD
import Derived.Test.YtkpcmfgeanlcnabDoorRowW
import Derived.Test.YtkpcmfgeanlcnabDoorLinesW
namespace Go.Hp

theorem Rearr.rot {n p q : Nat} (g : Nat → Ent) (hp : p ≤ q) (hq : q < n) : Rearr n g (fun x => if x = p then g q else if p < x ∧ x ≤ q then g (x - 1) else g x) := by
  refine ⟨fun x => if x = p then q else if p < x ∧ x ≤ q then x - 1 else x, fun x => if x = q then p else if p ≤ x ∧ x < q then x + 1 else x, fun i hi => ?_, fun i hi => ?_⟩
  · dsimp only
    refine ⟨by split <;> (try split) <;> omega, by split <;> (try split) <;> omega, ?_, ?_⟩
    · by_cases h1 : i = p
      · rw [if_pos h1, if_pos rfl, h1]
      · rw [if_neg h1]
        by_cases h2 : p < i ∧ i ≤ q
        · rw [if_pos h2, if_neg (by omega), if_pos (by omega)]; omega
        · rw [if_neg h2, if_neg (by omega), if_neg (by omega)]
    · by_cases h1 : i = q
      · rw [if_pos h1, if_pos rfl, h1]
      · rw [if_neg h1]
        by_cases h2 : p ≤ i ∧ i < q
        · rw [if_pos h2, if_neg (by omega), if_pos (by omega)]; omega
        · rw [if_neg h2, if_neg (by omega), if_neg (by omega)]
  · dsimp only
    split
    · rfl
    · split <;> rfl

/-- Rows one behind the other, each put in order. -/
theorem Rearr.both {h m : Nat} {f L R : Nat → Ent} (a : Rearr h f L) (b : Rearr m (fun i => f (h + i)) R) : Rearr (h + m) f (fun x => if x < h then L x else R (x - h)) := by
  obtain ⟨s, t, h1, h2⟩ := a
  obtain ⟨s', t', h3, h4⟩ := b
  refine ⟨fun x => if x < h then s x else h + s' (x - h), fun x => if x < h then t x else h + t' (x - h), fun i hi => ?_, fun i hi => ?_⟩
  · dsimp only
    by_cases hh : i < h
    · obtain ⟨q1, q2, q3, q4⟩ := h1 i hh
      rw [if_pos hh, if_pos hh, if_pos q1, if_pos q2]
      exact ⟨by omega, by omega, q3, q4⟩
    · obtain ⟨q1, q2, q3, q4⟩ := h3 (i - h) (by omega)
      rw [if_neg hh, if_neg hh, if_neg (by omega), if_neg (by omega), Nat.add_sub_cancel_left, Nat.add_sub_cancel_left, q3, q4]
      exact ⟨by omega, by omega, by omega, by omega⟩
  · dsimp only
    by_cases hh : i < h
    · rw [if_pos hh, if_pos hh, h2 i hh]
    · rw [if_neg hh, if_neg hh, h4 (i - h) (by omega)]

def Srt (n : Nat) (f : Nat → Ent) : Prop := ∀ i, i + 1 < n → le (f i).k (f (i + 1)).k
theorem Srt.far {n : Nat} {f : Nat → Ent} (h : Srt n f) : ∀ d i, i + d < n → le (f i).k (f (i + d)).k
  | 0, i, _ => le_refl _
  | d + 1, i, hi => le_trans (h.far d i (by omega)) (h (i + d) (by omega))
theorem Srt.le {n : Nat} {f : Nat → Ent} (h : Srt n f) {i j : Nat} (hij : i ≤ j) (hj : j < n) : Hp.le (f i).k (f j).k := by
  have := h.far (j - i) i (by omega)
  rwa [show i + (j - i) = j by omega] at this

def snoc (out : Nat → Ent) (p : Nat) (e : Ent) : Nat → Ent := fun x => if x = p then e else out x
/-- Merged so far: i of the first row, j of the second. -/
structure MS (h m : Nat) (f L R : Nat → Ent) (i j : Nat) (out : Nat → Ent) : Prop where
  re : Rearr (h + m) f (fun x => if x < i + j then out x else if x < j + h then L (x - j) else R (x - h))
  so : Srt (i + j) out
  lo : 0 < i + j → ∀ x, i ≤ x → x < h → le (out (i + j - 1)).k (L x).k
  hi : 0 < i + j → ∀ x, j ≤ x → x < m → le (out (i + j - 1)).k (R x).k
theorem MS.start {h m : Nat} {f L R : Nat → Ent} (a : Rearr h f L) (b : Rearr m (fun i => f (h + i)) R) : MS h m f L R 0 0 f :=
  ⟨(a.both b).congr fun x hx => by rw [if_neg (show ¬ x < 0 + 0 by omega)]; simp, fun i hi => absurd hi (by omega), fun h0 => absurd h0 (by omega), fun h0 => absurd h0 (by omega)⟩
theorem Srt.snoc {n : Nat} {out : Nat → Ent} {e : Ent} (h : Srt n out) (hl : 0 < n → Hp.le (out (n - 1)).k e.k) : Srt (n + 1) (snoc out n e) := fun i hi => by
  unfold Hp.snoc
  rw [if_neg (by omega)]
  by_cases e' : i + 1 = n
  · rw [if_pos e']
    have := hl (by omega)
    rwa [show n - 1 = i by omega] at this
  · rw [if_neg e']
    exact h i (by omega)
theorem MS.left {h m : Nat} {f L R : Nat → Ent} {i j : Nat} {out : Nat → Ent} (M : MS h m f L R i j out) (hi : i < h) (hj : j ≤ m) (hl : Srt h L) (hr : Srt m R) (hc : j < m → Hp.le (L i).k (R j).k) : MS h m f L R (i + 1) j (snoc out (i + j) (L i)) := by
  have e : i + 1 + j = i + j + 1 := by omega
  refine ⟨M.re.congr fun x hx => ?_, ?_, ?_, ?_⟩
  · unfold snoc
    by_cases h1 : x < i + j
    · rw [if_pos h1, if_pos (by omega), if_neg (by omega)]
    · rw [if_neg h1]
      by_cases h2 : x = i + j
      · subst h2
        rw [if_pos (by omega), if_pos (by omega), if_pos rfl, Nat.add_sub_cancel]
      · rw [if_neg (show ¬ x < i + 1 + j by omega)]
  · rw [e]
    exact M.so.snoc fun h0 => M.lo h0 i (Nat.le_refl _) hi
  · intro _ x hx hxh
    unfold snoc
    rw [if_pos (by omega)]
    exact hl.le (by omega) hxh
  · intro _ x hx hxm
    unfold snoc
    rw [if_pos (by omega)]
    exact le_trans (hc (by omega)) (hr.le hx hxm)
theorem MS.right {h m : Nat} {f L R : Nat → Ent} {i j : Nat} {out : Nat → Ent} (M : MS h m f L R i j out) (hi : i < h) (hj : j < m) (hl : Srt h L) (hr : Srt m R) (hc : Hp.le (R j).k (L i).k) : MS h m f L R i (j + 1) (snoc out (i + j) (R j)) := by
  have e : i + (j + 1) = i + j + 1 := by omega
  refine ⟨(M.re.trans (Rearr.rot (p := i + j) (q := j + h) _ (by omega) (by omega))).congr fun x hx => ?_, ?_, ?_, ?_⟩
  · unfold snoc
    by_cases h1 : x = i + j
    · subst h1
      rw [if_pos rfl, if_neg (by omega), if_neg (by omega), if_pos (by omega), if_pos rfl]
      congr 1
      omega
    · rw [if_neg h1]
      by_cases h2 : i + j < x ∧ x ≤ j + h
      · rw [if_pos h2, if_neg (by omega), if_pos (by omega), if_neg (by omega), if_pos (by omega)]
        congr 1
        omega
      · rw [if_neg h2]
        by_cases h3 : x < i + j
        · rw [if_pos h3, if_pos (by omega), if_neg h1]
        · rw [if_neg h3, if_neg (by omega), if_neg (by omega), if_neg (by omega)]
  · rw [e]
    exact M.so.snoc fun h0 => M.hi h0 j (Nat.le_refl _) hj
  · intro _ x hx hxh
    unfold snoc
    rw [if_pos (by omega)]
    exact le_trans hc (hl.le hx hxh)
  · intro _ x hx hxm
    unfold snoc
    rw [if_pos (by omega)]
    exact hr.le (by omega) hxm
theorem MS.done {h m : Nat} {f L R : Nat → Ent} {j : Nat} {out : Nat → Ent} (M : MS h m f L R h j out) (_hj : j ≤ m) (hr : Srt m R) : Rearr (h + m) f (fun x => if x < h + j then out x else R (x - h)) ∧ Srt (h + m) (fun x => if x < h + j then out x else R (x - h)) := by
  refine ⟨M.re.congr fun x hx => ?_, fun i hi => ?_⟩
  · by_cases h1 : x < h + j
    · rw [if_pos h1, if_pos h1]
    · rw [if_neg h1, if_neg h1, if_neg (by omega)]
  · dsimp only
    by_cases h1 : i + 1 < h + j
    · rw [if_pos h1, if_pos (by omega)]
      exact M.so i h1
    · rw [if_neg h1]
      by_cases h2 : i < h + j
      · rw [if_pos h2]
        have := M.hi (by omega) (i + 1 - h) (by omega) (by omega)
        rwa [show h + j - 1 = i by omega] at this
      · rw [if_neg h2]
        exact hr.le (by omega) (by omega)

/-- Put in order with no two alike, there is one way. -/
theorem mono_id {n : Nat} {s : Nat → Nat} (hs : ∀ i, i < n → s i < n) (hm : ∀ i, i + 1 < n → s i < s (i + 1)) : ∀ i, i < n → s i = i := by
  have h1 : ∀ i, i < n → i ≤ s i := by
    intro i
    induction i with
    | zero => intro _; omega
    | succ i ih => intro hi; have := ih (by omega); have := hm i hi; omega
  have h2 : ∀ d i, i + d + 1 = n → s i ≤ i := by
    intro d
    induction d with
    | zero => intro i hi; have := hs i (by omega); omega
    | succ d ih => intro i hi; have := ih (i + 1) (by omega); have := hm i (by omega); omega
  intro i hi
  have := h1 i hi
  have := h2 (n - i - 1) i (by omega)
  omega
theorem sorted_one {n : Nat} {f g g' : Nat → Ent} (a : Rearr n f g) (b : Rearr n f g') (hg : ∀ i, i + 1 < n → lt (g i).k (g (i + 1)).k = true) (hg' : Srt n g') : ∀ i, i < n → g' i = g i := by
  obtain ⟨s, t, h1, h2⟩ := a.symm.trans b
  have far : ∀ d i, i + d + 1 < n → lt (g i).k (g (i + d + 1)).k = true := by
    intro d
    induction d with
    | zero => intro i hi; exact hg i hi
    | succ d ih => intro i hi; exact lt_trans (ih i (by omega)) (hg (i + d + 1) (by omega))
  have hm : ∀ i, i + 1 < n → s i < s (i + 1) := by
    intro i hi
    rcases Nat.lt_trichotomy (s i) (s (i + 1)) with h | h | h
    · exact h
    · have e1 := (h1 i (by omega)).2.2.1
      have e2 := (h1 (i + 1) hi).2.2.1
      rw [h, e2] at e1
      omega
    · have q := far (s i - s (i + 1) - 1) (s (i + 1)) (by have := (h1 i (by omega)).1; omega)
      rw [show s (i + 1) + (s i - s (i + 1) - 1) + 1 = s i by omega] at q
      have := hg' i hi
      rw [h2 i (by omega), h2 (i + 1) hi] at this
      unfold Hp.le at this
      rw [this] at q
      cases q
  have hid := mono_id (fun i hi => (h1 i hi).1) hm
  intro i hi
  rw [h2 i hi, hid i hi]
end Go.Hp

/-
  Blobs put in the order of their names by the document: run alone.
-/
namespace Go.Proofs.YtkpcmfgeanlcnabDoor
open Go.RowKit Go.Deep Go.Hp

def SortPost (n : Nat) (f : Nat → Ent) (w : World) (r : Ending) (w' : World) : Prop :=
  Below w.heap.size w w' ∧ ∃ f' v, r = .returned v ∧ Rearr n f f' ∧ Srt n f' ∧ w'.ownsRow w.heap.size 31 2 v n (blobL n f')
theorem BC.take {w : World} {bo : Option Addr} {n m : Nat} {f : Nat → Ent} (h : BC w bo n f) (hm : m ≤ n) : BC w bo m f := ⟨fun h0 => by
  obtain ⟨b, o, h1, h2, h3⟩ := h.here (by omega)
  exact ⟨b, o, h1, h2, fun i hi => h3 i (by omega)⟩⟩
theorem BC.drop {w : World} {b o : Nat} {n m : Nat} {f : Nat → Ent} (h : BC w (some ⟨b, o, none⟩) (m + n) f) (hn : 0 < n) : BC w (some ⟨b, o + m * 2, none⟩) n (fun i => f (m + i)) := ⟨fun _ => by
  obtain ⟨b', o', h1, h2, h3⟩ := h.here (by omega)
  cases h1
  refine ⟨b, o + m * 2, rfl, h2, fun i hi => ?_⟩
  have := h3 (m + i) (by omega)
  rw [show o + (m + i) * 2 = o + m * 2 + i * 2 by omega] at this
  exact this⟩
theorem BC.of_owns {w : World} {B n : Nat} {v : Value} {f : Nat → Ent} (h : w.ownsRow B 31 2 v n (blobL n f)) : ∃ bo cap, v = .slice bo n cap ∧ n ≤ cap ∧ (bo = none → cap = 0) ∧ BC w bo n f := by
  rcases h.2 with ⟨rfl, rfl⟩ | ⟨g, cap, cur, rfl, h2, h3, h4, _⟩
  · exact ⟨none, 0, rfl, Nat.le_refl _, fun _ => rfl, ⟨fun h0 => absurd h0 (by omega)⟩⟩
  · refine ⟨_, cap, rfl, h4, (fun e => nomatch e), ⟨fun _ => ⟨g, 0, rfl, (h.lt g rfl).2, fun i hi => ?_⟩⟩⟩
    have q0 := h.cellAt (i * 2) (by omega)
    have q1 := h.cellAt (i * 2 + 1) (by omega)
    rw [show i * 2 = i * 2 + 0 from rfl, blobL_get n f i 0 hi (by omega)] at q0
    rw [blobL_get n f i 1 hi (by omega)] at q1
    rw [Nat.zero_add]
    exact ⟨q0, q1⟩
theorem BC.news {w : World} {ad : Addr} {n : Nat} {f : Nat → Ent} (h : BC w (some ad) n f) : ∀ j u, (blobL n f)[j]? = some u → w.cell? (ad.add j) = some u := by
  intro j u hj
  have hl : j < n * 2 := by
    rcases Nat.lt_or_ge j (n * 2) with q | q
    · exact q
    · rw [List.getElem?_eq_none (by rw [blobL_length]; omega)] at hj; cases hj
  obtain ⟨b, o, e, _, hc⟩ := h.here (by omega)
  cases e
  have hd : j = j / 2 * 2 + j % 2 := by omega
  rw [hd, blobL_get n f (j / 2) (j % 2) (by omega) (by omega)] at hj
  rw [addr_addD, hd]
  have q := hc (j / 2) (by omega)
  have : j % 2 = 0 ∨ j % 2 = 1 := by omega
  rcases this with e | e
  · rw [e] at hj ⊢
    cases hj
    exact q.1
  · rw [e] at hj ⊢
    cases hj
    exact q.2
theorem blobL_snoc (n : Nat) (out : Nat → Ent) (e : Ent) : blobL (n + 1) (Hp.snoc out n e) = blobL n out ++ blobC e := by
  rw [blobL_succ, blobL_congr (g := out) fun i hi => by unfold Hp.snoc; rw [if_neg (by omega)]]
  unfold Hp.snoc
  rw [if_pos rfl]
theorem blobL_add (a b : Nat) (f : Nat → Ent) : blobL (a + b) f = blobL a f ++ blobL b (fun x => f (a + x)) := by
  induction b with
  | zero => simp [blobL]
  | succ b ih => rw [← Nat.add_assoc, blobL_succ, ih, blobL_succ, List.append_assoc]
theorem blobL_merge (h j m : Nat) (hj : j ≤ m) (out R : Nat → Ent) : blobL (h + j) out ++ blobL (m - j) (fun x => R (j + x)) = blobL (h + m) (fun x => if x < h + j then out x else R (x - h)) := by
  rw [show h + m = h + j + (m - j) by omega]
  have e1 : blobL (h + j) out = blobL (h + j) (fun x => if x < h + j then out x else R (x - h)) := blobL_congr fun x hx => (if_pos hx).symm
  have e2 : blobL (m - j) (fun x => R (j + x)) = blobL (m - j) (fun x => (fun x => if x < h + j then out x else R (x - h)) (h + j + x)) := blobL_congr fun x hx => by
    show R (j + x) = if h + j + x < h + j then out (h + j + x) else R (h + j + x - h)
    rw [if_neg (by omega)]
    congr 1
    omega
  rw [blobL_add (h + j) (m - j), ← e1, ← e2]
theorem blobL_one (n : Nat) (f : Nat → Ent) : ∀ u ∈ blobL n f, u.oneCell' = true := by
  intro u hu
  unfold blobL at hu
  rw [List.mem_flatMap] at hu
  obtain ⟨i, _, hi⟩ := hu
  exact blobC_one _ u hi

end Go.Proofs.YtkpcmfgeanlcnabDoor

/-
  The document's mixing of columns: run alone.
-/
namespace Go.Proofs.YtkpcmfgeanlcnabDoor
open Go.RowKit Go.Deep Go.Hp

def dotN (r x : Nat → Nat) : Nat → Nat
  | 0 => 0
  | j + 1 => dotN r x j ^^^ mul (r j) (x j)
theorem dotN_lt {r x : Nat → Nat} (hr : ∀ j, r j < 256) : ∀ n, dotN r x n < 256
  | 0 => by simp [dotN]
  | n + 1 => Nat.xor_lt_two_pow (n := 8) (dotN_lt hr n) (mul_lt (hr n))

theorem drewN_addD (w : World) (j n : Nat) : (w.drewN j).drewN n = w.drewN (j + n) := by simp [World.drewN, Nat.add_assoc]
/-- Columns where they lie. -/
structure Cls (w : World) (k L bP : Nat) (a : Nat → Option Addr) (bl cp : Nat → Nat) (x : Nat → Nat → Nat) : Prop where
  col : ∀ j, j < k → w.cell? ⟨bP, j, none⟩ = some (.slice (a j) L (cp j))
  at_ : ∀ j m, j < k → m < L → a j = some ⟨bl j, 0, none⟩ ∧ w.cell? ⟨bl j, m, none⟩ = some (.int .u8 ((x j m : Nat) : Int))

theorem Cls.heap {w w' : World} {k L bP : Nat} {a : Nat → Option Addr} {bl cp : Nat → Nat} {x : Nat → Nat → Nat} (h : Cls w k L bP a bl cp x) (hb : ∀ {b o : Nat} {u : Value}, w.cell? ⟨b, o, none⟩ = some u → w'.cell? ⟨b, o, none⟩ = some u) : Cls w' k L bP a bl cp x :=
  ⟨fun j hj => hb (h.col j hj), fun j m hj hm => ⟨(h.at_ j m hj hm).1, hb (h.at_ j m hj hm).2⟩⟩
theorem below_cell {w w' : World} {B : Nat} (h : Below B w w') (hB : w.heap.size ≤ B) {b o : Nat} {u : Value} (hc : w.cell? ⟨b, o, none⟩ = some u) : w'.cell? ⟨b, o, none⟩ = some u :=
  (h.cell (p := ⟨b, o, none⟩) (Nat.lt_of_lt_of_le (cell_lt hc) hB)).trans hc
def numsV (n : Nat) (f : Nat → Nat) : List Value := (List.range n).map fun j => .int .u8 ((f j : Nat) : Int)
theorem numsV_succ (n : Nat) (f : Nat → Nat) : numsV (n + 1) f = numsV n f ++ [.int .u8 ((f n : Nat) : Int)] := by simp [numsV, List.range_succ]
theorem numsV_length (n : Nat) (f : Nat → Nat) : (numsV n f).length = n := by simp [numsV]
theorem numsV_get (n : Nat) (f : Nat → Nat) {i : Nat} (hi : i < n) : (numsV n f)[i]? = some (.int .u8 ((f i : Nat) : Int)) := by simp [numsV, hi]

end Go.Proofs.YtkpcmfgeanlcnabDoor

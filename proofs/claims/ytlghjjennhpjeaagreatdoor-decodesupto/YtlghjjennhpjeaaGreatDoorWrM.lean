/-
  What the program's calls that put bytes behind a list leave.
-/
import Derived.Test.YtlghjjennhpjeaaGreatDoorEnC
import Derived.Laws.MakeOwn
import Derived.Laws.AppendOwnNone
import Derived.Test.YtlghjjennhpjeaaGreatDoorScanB
import Derived.Test.YtlghjjennhpjeaaGreatDoorRowW
import Derived.Test.YtlghjjennhpjeaaGreatDoorSvE
import Derived.BigQuiet
namespace Go.Proofs.YtlghjjennhpjeaaGreatDoor
open Go.RowKit Go.Deep

/-- A list of bytes of one's own. -/
def OwnB (B : Nat) (w : World) (v : Value) (l : List UInt8) : Prop := w.ownsRow B 5 1 v l.length (u8V l)
theorem OwnB.of {B n : Nat} {w : World} {v : Value} {l : List UInt8} (h : w.ownsRow B 5 1 v n (u8V l)) : OwnB B w v l := by
  have : n = l.length := by have := h.1; rw [u8V_length] at this; omega
  subst this; exact h
theorem OwnB.alloc {B : Nat} {w : World} {v : Value} {l : List UInt8} (h : OwnB B w v l) (o : Obj) : OwnB B (w.alloc o) v l := World.ownsRow.alloc h o
/-- It is no row of bytes. -/
def noBytes : Obj → Bool
  | .cells _ t _ => t != 5
  | _ => true
/-- What is no row of bytes lies as it lay. -/
structure KeepT (w w' : World) : Prop where
  size : w.heap.size ≤ w'.heap.size
  same : ∀ (k : Nat) (o : Obj), w.heap[k]? = some o → noBytes o = true → w'.heap[k]? = some o
theorem KeepT.refl (w : World) : KeepT w w := ⟨Nat.le_refl _, fun _ _ h _ => h⟩
theorem KeepT.trans {a b c : World} (h : KeepT a b) (k : KeepT b c) : KeepT a c := ⟨Nat.le_trans h.size k.size, fun i o hh ht => k.same i o (h.same i o hh ht) ht⟩
theorem KeepT.alloc {a w : World} (h : KeepT a w) (o : Obj) : KeepT a (w.alloc o) := h.trans ⟨by simp, fun k o' hh _ => by
  have hk : k < w.heap.size := (Array.getElem?_eq_some_iff.1 hh).1
  exact (Below.heap_alloc w o k hk).trans hh⟩
theorem OwnB.keeps {B : Nat} {w w' : World} {v : Value} {l : List UInt8} (h : OwnB B w v l) (hg : w.grownBy w' v.ownBlock) : KeepT w w' := ⟨hg.size, fun k o hh ht => by
  have hk : k < w.heap.size := (Array.getElem?_eq_some_iff.1 hh).1
  rw [hg.block k hk ?_]
  · exact hh
  · intro e
    rcases h.2 with ⟨rfl, _⟩ | ⟨g, cap, cur, rfl, _, hb, _⟩
    · cases e
    · cases e
      rw [hb] at hh
      cases hh
      simp [noBytes] at ht⟩
theorem RowAt.keep {w w' : World} {b : Nat} {cs : List Value} {t : TypeId} (h : RowAt w b cs t) (hk : KeepT w w') (ht : t ≠ 5) : RowAt w' b cs t := hk.same b _ h (by simpa [noBytes] using ht)
/-- What is answered is a list of one's own with these bytes; what lay below B lies as it lay. -/
def Gives (B : Nat) (w : World) (l : List UInt8) (r : Ending) (w' : World) : Prop := ∃ v, r = .returned v ∧ OwnB B w' v l ∧ Below B w w' ∧ KeepT w w'

/-- The table of the sum stands as it is laid. -/
def Tab (w : World) : Prop := 3 < w.heap.size ∧ ∀ i, i < 16 → w.cell? ⟨3, i, none⟩ = some (.int .u64 ((crcTab.getD i 0 : Nat) : Int))
theorem Tab.below {w w' : World} {B : Nat} (h : Tab w) (hb : Below B w w') (hB : 3 < B) : Tab w' :=
  ⟨Nat.lt_of_lt_of_le h.1 hb.size, fun i hi => (hb.cell (p := ⟨3, i, none⟩) hB).trans (h.2 i hi)⟩
theorem Tab.heap {w w' : World} (h : Tab w) (hh : w'.heap = w.heap) : Tab w' := by
  refine ⟨by rw [hh]; exact h.1, fun i hi => ?_⟩
  have := h.2 i hi
  unfold World.cell? at *
  rw [hh]; exact this
theorem sumOf_any (bb bo cap : Nat) (l : List UInt8) (hl : l.length < 2 ^ 60) (w : World) (hb : Byt w bb bo l) (ht : Tab w) :
    Calls Tryz.prog 138 #[.slice (some ⟨bb, bo, none⟩) l.length cap] w fun e w' => e = .returned (.int .u64 (sumOf l : Nat)) ∧ w' = w :=
  sum_row bb bo l.length cap (l.map UInt8.toNat) (by simp) (fun i _ => by rw [map_getD]; exact bAt_lt l i) (by omega) w (fun i hi => by rw [map_getD]; exact hb i hi) ht.2

end Go.Proofs.YtlghjjennhpjeaaGreatDoor

/-
  What the program's Manifest and appendHead leave.
-/
namespace Go.Proofs.YtlghjjennhpjeaaGreatDoor
open Go.RowKit Go.Deep

theorem u8V_append (a b : List UInt8) : u8V (a ++ b) = u8V a ++ u8V b := by simp [u8V]
theorem OwnB.lt {B : Nat} {w : World} {v : Value} {l : List UInt8} (h : OwnB B w v l) (k : Nat) (hk : v.ownBlock = some k) : B ≤ k := (World.ownsRow.lt h k hk).1
theorem OwnB.more {B n m : Nat} {w : World} {v : Value} {l k : List UInt8} {xs : List Value} (h : w.ownsRow B 5 1 v (n + m) (u8V l ++ xs)) (e : xs = u8V k) : OwnB B w v (l ++ k) := by
  subst e
  rw [← u8V_append] at h
  exact OwnB.of h
theorem OwnB.grown {B : Nat} {w w' : World} {v : Value} {l : List UInt8} (h : OwnB B w v l) (hg : w.grownBy w' v.ownBlock) (hB : B ≤ w.heap.size) : Below B w w' :=
  (Below.refl B w).grown hg hB (fun k hk => h.lt k hk)
theorem manTo_len (ns : List (List UInt8)) (zs : List Int) (i : Nat) : (manTo ns zs i).length = manNto ns i := manTo_length ns zs i

end Go.Proofs.YtlghjjennhpjeaaGreatDoor

/-
  What the program takes from blobs: their names and sizes (content), their bytes (join): run alone.
-/
namespace Go.Proofs.YtlghjjennhpjeaaGreatDoor
open Go.RowKit Go.Deep Go.Hp

theorem Tryz.infoNm : (Tryz.prog.info? 9).map (fun i => (i.zero, i.size, i.bytes)) = some (some (.string ⟨#[]⟩), 1, 16) := by kernel_rfl
theorem Tryz.infoIn : (Tryz.prog.info? 3).map (fun i => (i.zero, i.size, i.bytes)) = some (some (.int .i64 0), 1, 8) := by kernel_rfl
def namesOf (n : Nat) (f : Nat → Ent) : List (List UInt8) := (List.range n).map fun i => (f i).k
def sizesOf (n : Nat) (f : Nat → Ent) : List Int := (List.range n).map fun i => ((f i).l : Int)
theorem namesOf_length (n : Nat) (f : Nat → Ent) : (namesOf n f).length = n := by simp [namesOf]
theorem sizesOf_length (n : Nat) (f : Nat → Ent) : (sizesOf n f).length = n := by simp [sizesOf]
theorem namesV_succ (n : Nat) (f : Nat → Ent) : nameV (namesOf (n + 1) f) = nameV (namesOf n f) ++ [.string ⟨(f n).k.toArray⟩] := by simp [nameV, namesOf, List.range_succ]
theorem sizesV_succ (n : Nat) (f : Nat → Ent) : intV (sizesOf (n + 1) f) = intV (sizesOf n f) ++ [.int .i64 ((f n).l : Int)] := by simp [intV, sizesOf, List.range_succ]
theorem one_strD (x : ByteArray) : ∀ u ∈ [Value.string x], u.oneCell' = true := by
  intro u hu
  simp at hu
  subst hu
  rfl
theorem one_intD (x : Int) : ∀ u ∈ [Value.int .i64 x], u.oneCell' = true := by
  intro u hu
  simp at hu
  subst hu
  rfl
theorem cell_one_newD (w : World) (x : Value) (t : TypeId) : ∀ j u, [x][j]? = some u → (w.alloc (.cells #[x] t)).cell? ((⟨w.heap.size, 0, none⟩ : Addr).add j) = some u := by
  intro j u hj
  match j, hj with
  | 0, hj => simp at hj; subst hj; simp [Addr.add]

def ContPost (n : Nat) (f : Nat → Ent) (w : World) (r : Ending) (w' : World) : Prop := Below w.heap.size w w' ∧ ∃ vn vs, r = .returned (.tuple #[vn, vs]) ∧ w'.ownsRow w.heap.size 9 1 vn n (nameV (namesOf n f)) ∧ w'.ownsRow w.heap.size 3 1 vs n (intV (sizesOf n f))

/-- A row appended to: other rows of other kinds stand. -/
theorem app_keep {w wa w1 : World} {B t t' s s' n n' : Nat} {v v' : Value} {xs xs' : List Value} (h : w.ownsRow B t s v n xs) (h' : w.ownsRow B t' s' v' n' xs') (ht : t ≠ t') (ha : Below w.heap.size w wa) (hg : wa.grownBy w1 v.ownBlock) : w1.ownsRow B t' s' v' n' xs' :=
  owns_keep' h' fun g hg' => (hg.block g (Nat.lt_of_lt_of_le (h'.lt g hg').2 ha.size) (fun e => kind_ne h h' ht e.symm hg')).trans (ha.block g (h'.lt g hg').2)
theorem app_below {w wa w1 : World} {B h0 t s n : Nat} {v : Value} {xs : List Value} (h : w.ownsRow B t s v n xs) (hB : B ≤ w.heap.size) (ha : Below w.heap.size w wa) (hg : wa.grownBy w1 v.ownBlock) (_ : h0 ≤ B) : Below B w w1 :=
  (ha.mono hB).grown hg (Nat.le_trans hB ha.size) (fun x hx => (h.lt x hx).1)
theorem addr_addD (b o j : Nat) : (⟨b, o, none⟩ : Addr).add j = ⟨b, o + j, none⟩ := by
  simp only [Addr.add]
  split
  · rename_i h; subst h; rfl
  · rfl
/-- The bytes of blobs, where they lie. -/
def DataAt (w : World) (e : Ent) (d : List UInt8) : Prop := d.length = e.l ∧ ((e.a = none ∧ e.l = 0 ∧ e.c = 0) ∨ ∃ ad : Addr, e.a = some ad ∧ ∀ j u, (u8V d)[j]? = some u → w.cell? (ad.add j) = some u)
theorem DataAt.below {w w' : World} {e : Ent} {d : List UInt8} {B : Nat} (h : DataAt w e d) (hb : Below B w w') (hB : w.heap.size ≤ B) : DataAt w' e d := by
  refine ⟨h.1, ?_⟩
  rcases h.2 with h2 | ⟨ad, h2, h4⟩
  · exact .inl h2
  · exact .inr ⟨ad, h2, fun j u hj => (hb.cell (p := ad.add j) (Nat.lt_of_lt_of_le (cell_lt (h4 j u hj)) hB)).trans (h4 j u hj)⟩
def joinD (D : Nat → List UInt8) : Nat → List UInt8
  | 0 => []
  | n + 1 => joinD D n ++ D n
theorem u8V_oneD (l : List UInt8) : ∀ u ∈ u8V l, u.oneCell' = true := by
  intro u hu
  simp [u8V] at hu
  obtain ⟨_, _, rfl⟩ := hu
  rfl
theorem joinD_le (D : Nat → List UInt8) {i n : Nat} (h : i ≤ n) : (joinD D i).length ≤ (joinD D n).length := by
  induction n with
  | zero => obtain rfl : i = 0 := by omega
            exact Nat.le_refl _
  | succ n ih =>
    by_cases e : i = n + 1
    · rw [e]; exact Nat.le_refl _
    · have := ih (by omega)
      simp only [joinD, List.length_append]
      omega

end Go.Proofs.YtlghjjennhpjeaaGreatDoor

/-
  Two sorted rows made one, in plain words.
-/
namespace Go.Hp

theorem Rearr.rot {n p q : Nat} (g : Nat → Ent) (hp : p ≤ q) (hq : q < n) : Rearr n g (fun x => if x = p then g q else if p < x ∧ x ≤ q then g (x - 1) else g x) := by
  refine ⟨fun x => if x = p then q else if p < x ∧ x ≤ q then x - 1 else x, fun x => if x = q then p else if p ≤ x ∧ x < q then x + 1 else x, fun i hi => ?_, fun i hi => ?_⟩
  · dsimp only
    refine ⟨by split <;> (try split) <;> omega, by split <;> (try split) <;> omega, ?_, ?_⟩
    · by_cases h1 : i = p
      · rw [if_pos h1, if_pos rfl, h1]
      · rw [if_neg h1]
        by_cases h2 : p < i ∧ i ≤ q
        · rw [if_pos h2, if_neg (by omega), if_pos (by omega)]; omega
        · rw [if_neg h2, if_neg (by omega), if_neg (by omega)]
    · by_cases h1 : i = q
      · rw [if_pos h1, if_pos rfl, h1]
      · rw [if_neg h1]
        by_cases h2 : p ≤ i ∧ i < q
        · rw [if_pos h2, if_neg (by omega), if_pos (by omega)]; omega
        · rw [if_neg h2, if_neg (by omega), if_neg (by omega)]
  · dsimp only
    split
    · rfl
    · split <;> rfl

/-- Rows one behind the other, each put in order. -/
theorem Rearr.both {h m : Nat} {f L R : Nat → Ent} (a : Rearr h f L) (b : Rearr m (fun i => f (h + i)) R) : Rearr (h + m) f (fun x => if x < h then L x else R (x - h)) := by
  obtain ⟨s, t, h1, h2⟩ := a
  obtain ⟨s', t', h3, h4⟩ := b
  refine ⟨fun x => if x < h then s x else h + s' (x - h), fun x => if x < h then t x else h + t' (x - h), fun i hi => ?_, fun i hi => ?_⟩
  · dsimp only
    by_cases hh : i < h
    · obtain ⟨q1, q2, q3, q4⟩ := h1 i hh
      rw [if_pos hh, if_pos hh, if_pos q1, if_pos q2]
      exact ⟨by omega, by omega, q3, q4⟩
    · obtain ⟨q1, q2, q3, q4⟩ := h3 (i - h) (by omega)
      rw [if_neg hh, if_neg hh, if_neg (by omega), if_neg (by omega), Nat.add_sub_cancel_left, Nat.add_sub_cancel_left, q3, q4]
      exact ⟨by omega, by omega, by omega, by omega⟩
  · dsimp only
    by_cases hh : i < h
    · rw [if_pos hh, if_pos hh, h2 i hh]
    · rw [if_neg hh, if_neg hh, h4 (i - h) (by omega)]

def Srt (n : Nat) (f : Nat → Ent) : Prop := ∀ i, i + 1 < n → le (f i).k (f (i + 1)).k
theorem Srt.far {n : Nat} {f : Nat → Ent} (h : Srt n f) : ∀ d i, i + d < n → le (f i).k (f (i + d)).k
  | 0, i, _ => le_refl _
  | d + 1, i, hi => le_trans (h.far d i (by omega)) (h (i + d) (by omega))
theorem Srt.le {n : Nat} {f : Nat → Ent} (h : Srt n f) {i j : Nat} (hij : i ≤ j) (hj : j < n) : Hp.le (f i).k (f j).k := by
  have := h.far (j - i) i (by omega)
  rwa [show i + (j - i) = j by omega] at this

def snoc (out : Nat → Ent) (p : Nat) (e : Ent) : Nat → Ent := fun x => if x = p then e else out x
/-- Merged so far: i of the first row, j of the second. -/
structure MS (h m : Nat) (f L R : Nat → Ent) (i j : Nat) (out : Nat → Ent) : Prop where
  re : Rearr (h + m) f (fun x => if x < i + j then out x else if x < j + h then L (x - j) else R (x - h))
  so : Srt (i + j) out
  lo : 0 < i + j → ∀ x, i ≤ x → x < h → le (out (i + j - 1)).k (L x).k
  hi : 0 < i + j → ∀ x, j ≤ x → x < m → le (out (i + j - 1)).k (R x).k
theorem MS.start {h m : Nat} {f L R : Nat → Ent} (a : Rearr h f L) (b : Rearr m (fun i => f (h + i)) R) : MS h m f L R 0 0 f :=
  ⟨(a.both b).congr fun x hx => by rw [if_neg (show ¬ x < 0 + 0 by omega)]; simp, fun i hi => absurd hi (by omega), fun h0 => absurd h0 (by omega), fun h0 => absurd h0 (by omega)⟩
theorem Srt.snoc {n : Nat} {out : Nat → Ent} {e : Ent} (h : Srt n out) (hl : 0 < n → Hp.le (out (n - 1)).k e.k) : Srt (n + 1) (snoc out n e) := fun i hi => by
  unfold Hp.snoc
  rw [if_neg (by omega)]
  by_cases e' : i + 1 = n
  · rw [if_pos e']
    have := hl (by omega)
    rwa [show n - 1 = i by omega] at this
  · rw [if_neg e']
    exact h i (by omega)
theorem MS.left {h m : Nat} {f L R : Nat → Ent} {i j : Nat} {out : Nat → Ent} (M : MS h m f L R i j out) (hi : i < h) (hj : j ≤ m) (hl : Srt h L) (hr : Srt m R) (hc : j < m → Hp.le (L i).k (R j).k) : MS h m f L R (i + 1) j (snoc out (i + j) (L i)) := by
  have e : i + 1 + j = i + j + 1 := by omega
  refine ⟨M.re.congr fun x hx => ?_, ?_, ?_, ?_⟩
  · unfold snoc
    by_cases h1 : x < i + j
    · rw [if_pos h1, if_pos (by omega), if_neg (by omega)]
    · rw [if_neg h1]
      by_cases h2 : x = i + j
      · subst h2
        rw [if_pos (by omega), if_pos (by omega), if_pos rfl, Nat.add_sub_cancel]
      · rw [if_neg (show ¬ x < i + 1 + j by omega)]
  · rw [e]
    exact M.so.snoc fun h0 => M.lo h0 i (Nat.le_refl _) hi
  · intro _ x hx hxh
    unfold snoc
    rw [if_pos (by omega)]
    exact hl.le (by omega) hxh
  · intro _ x hx hxm
    unfold snoc
    rw [if_pos (by omega)]
    exact le_trans (hc (by omega)) (hr.le hx hxm)
theorem MS.right {h m : Nat} {f L R : Nat → Ent} {i j : Nat} {out : Nat → Ent} (M : MS h m f L R i j out) (hi : i < h) (hj : j < m) (hl : Srt h L) (hr : Srt m R) (hc : Hp.le (R j).k (L i).k) : MS h m f L R i (j + 1) (snoc out (i + j) (R j)) := by
  have e : i + (j + 1) = i + j + 1 := by omega
  refine ⟨(M.re.trans (Rearr.rot (p := i + j) (q := j + h) _ (by omega) (by omega))).congr fun x hx => ?_, ?_, ?_, ?_⟩
  · unfold snoc
    by_cases h1 : x = i + j
    · subst h1
      rw [if_pos rfl, if_neg (by omega), if_neg (by omega), if_pos (by omega), if_pos rfl]
      congr 1
      omega
    · rw [if_neg h1]
      by_cases h2 : i + j < x ∧ x ≤ j + h
      · rw [if_pos h2, if_neg (by omega), if_pos (by omega), if_neg (by omega), if_pos (by omega)]
        congr 1
        omega
      · rw [if_neg h2]
        by_cases h3 : x < i + j
        · rw [if_pos h3, if_pos (by omega), if_neg h1]
        · rw [if_neg h3, if_neg (by omega), if_neg (by omega), if_neg (by omega)]
  · rw [e]
    exact M.so.snoc fun h0 => M.hi h0 j (Nat.le_refl _) hj
  · intro _ x hx hxh
    unfold snoc
    rw [if_pos (by omega)]
    exact le_trans hc (hl.le hx hxh)
  · intro _ x hx hxm
    unfold snoc
    rw [if_pos (by omega)]
    exact hr.le (by omega) hxm
theorem MS.done {h m : Nat} {f L R : Nat → Ent} {j : Nat} {out : Nat → Ent} (M : MS h m f L R h j out) (_hj : j ≤ m) (hr : Srt m R) : Rearr (h + m) f (fun x => if x < h + j then out x else R (x - h)) ∧ Srt (h + m) (fun x => if x < h + j then out x else R (x - h)) := by
  refine ⟨M.re.congr fun x hx => ?_, fun i hi => ?_⟩
  · by_cases h1 : x < h + j
    · rw [if_pos h1, if_pos h1]
    · rw [if_neg h1, if_neg h1, if_neg (by omega)]
  · dsimp only
    by_cases h1 : i + 1 < h + j
    · rw [if_pos h1, if_pos (by omega)]
      exact M.so i h1
    · rw [if_neg h1]
      by_cases h2 : i < h + j
      · rw [if_pos h2]
        have := M.hi (by omega) (i + 1 - h) (by omega) (by omega)
        rwa [show h + j - 1 = i by omega] at this
      · rw [if_neg h2]
        exact hr.le (by omega) (by omega)

/-- Put in order with no two alike, there is one way. -/
theorem mono_id {n : Nat} {s : Nat → Nat} (hs : ∀ i, i < n → s i < n) (hm : ∀ i, i + 1 < n → s i < s (i + 1)) : ∀ i, i < n → s i = i := by
  have h1 : ∀ i, i < n → i ≤ s i := by
    intro i
    induction i with
    | zero => intro _; omega
    | succ i ih => intro hi; have := ih (by omega); have := hm i hi; omega
  have h2 : ∀ d i, i + d + 1 = n → s i ≤ i := by
    intro d
    induction d with
    | zero => intro i hi; have := hs i (by omega); omega
    | succ d ih => intro i hi; have := ih (i + 1) (by omega); have := hm i (by omega); omega
  intro i hi
  have := h1 i hi
  have := h2 (n - i - 1) i (by omega)
  omega
theorem sorted_one {n : Nat} {f g g' : Nat → Ent} (a : Rearr n f g) (b : Rearr n f g') (hg : ∀ i, i + 1 < n → lt (g i).k (g (i + 1)).k = true) (hg' : Srt n g') : ∀ i, i < n → g' i = g i := by
  obtain ⟨s, t, h1, h2⟩ := a.symm.trans b
  have far : ∀ d i, i + d + 1 < n → lt (g i).k (g (i + d + 1)).k = true := by
    intro d
    induction d with
    | zero => intro i hi; exact hg i hi
    | succ d ih => intro i hi; exact lt_trans (ih i (by omega)) (hg (i + d + 1) (by omega))
  have hm : ∀ i, i + 1 < n → s i < s (i + 1) := by
    intro i hi
    rcases Nat.lt_trichotomy (s i) (s (i + 1)) with h | h | h
    · exact h
    · have e1 := (h1 i (by omega)).2.2.1
      have e2 := (h1 (i + 1) hi).2.2.1
      rw [h, e2] at e1
      omega
    · have q := far (s i - s (i + 1) - 1) (s (i + 1)) (by have := (h1 i (by omega)).1; omega)
      rw [show s (i + 1) + (s i - s (i + 1) - 1) + 1 = s i by omega] at q
      have := hg' i hi
      rw [h2 i (by omega), h2 (i + 1) hi] at this
      unfold Hp.le at this
      rw [this] at q
      cases q
  have hid := mono_id (fun i hi => (h1 i hi).1) hm
  intro i hi
  rw [h2 i hi, hid i hi]
end Go.Hp

/-
  Blobs put in the order of their names by the document: run alone.
-/
namespace Go.Proofs.YtlghjjennhpjeaaGreatDoor
open Go.RowKit Go.Deep Go.Hp

def SortPost (n : Nat) (f : Nat → Ent) (w : World) (r : Ending) (w' : World) : Prop :=
  Below w.heap.size w w' ∧ ∃ f' v, r = .returned v ∧ Rearr n f f' ∧ Srt n f' ∧ w'.ownsRow w.heap.size 63 2 v n (blobL n f')
theorem BC.take {w : World} {bo : Option Addr} {n m : Nat} {f : Nat → Ent} (h : BC w bo n f) (hm : m ≤ n) : BC w bo m f := ⟨fun h0 => by
  obtain ⟨b, o, h1, h2, h3⟩ := h.here (by omega)
  exact ⟨b, o, h1, h2, fun i hi => h3 i (by omega)⟩⟩
theorem BC.drop {w : World} {b o : Nat} {n m : Nat} {f : Nat → Ent} (h : BC w (some ⟨b, o, none⟩) (m + n) f) (hn : 0 < n) : BC w (some ⟨b, o + m * 2, none⟩) n (fun i => f (m + i)) := ⟨fun _ => by
  obtain ⟨b', o', h1, h2, h3⟩ := h.here (by omega)
  cases h1
  refine ⟨b, o + m * 2, rfl, h2, fun i hi => ?_⟩
  have := h3 (m + i) (by omega)
  rw [show o + (m + i) * 2 = o + m * 2 + i * 2 by omega] at this
  exact this⟩
theorem BC.of_owns {w : World} {B n : Nat} {v : Value} {f : Nat → Ent} (h : w.ownsRow B 63 2 v n (blobL n f)) : ∃ bo cap, v = .slice bo n cap ∧ n ≤ cap ∧ (bo = none → cap = 0) ∧ BC w bo n f := by
  rcases h.2 with ⟨rfl, rfl⟩ | ⟨g, cap, cur, rfl, h2, h3, h4, _⟩
  · exact ⟨none, 0, rfl, Nat.le_refl _, fun _ => rfl, ⟨fun h0 => absurd h0 (by omega)⟩⟩
  · refine ⟨_, cap, rfl, h4, (fun e => nomatch e), ⟨fun _ => ⟨g, 0, rfl, (h.lt g rfl).2, fun i hi => ?_⟩⟩⟩
    have q0 := h.cellAt (i * 2) (by omega)
    have q1 := h.cellAt (i * 2 + 1) (by omega)
    rw [show i * 2 = i * 2 + 0 from rfl, blobL_get n f i 0 hi (by omega)] at q0
    rw [blobL_get n f i 1 hi (by omega)] at q1
    rw [Nat.zero_add]
    exact ⟨q0, q1⟩
theorem BC.news {w : World} {ad : Addr} {n : Nat} {f : Nat → Ent} (h : BC w (some ad) n f) : ∀ j u, (blobL n f)[j]? = some u → w.cell? (ad.add j) = some u := by
  intro j u hj
  have hl : j < n * 2 := by
    rcases Nat.lt_or_ge j (n * 2) with q | q
    · exact q
    · rw [List.getElem?_eq_none (by rw [blobL_length]; omega)] at hj; cases hj
  obtain ⟨b, o, e, _, hc⟩ := h.here (by omega)
  cases e
  have hd : j = j / 2 * 2 + j % 2 := by omega
  rw [hd, blobL_get n f (j / 2) (j % 2) (by omega) (by omega)] at hj
  rw [addr_addD, hd]
  have q := hc (j / 2) (by omega)
  have : j % 2 = 0 ∨ j % 2 = 1 := by omega
  rcases this with e | e
  · rw [e] at hj ⊢
    cases hj
    exact q.1
  · rw [e] at hj ⊢
    cases hj
    exact q.2
theorem blobL_snoc (n : Nat) (out : Nat → Ent) (e : Ent) : blobL (n + 1) (Hp.snoc out n e) = blobL n out ++ blobC e := by
  rw [blobL_succ, blobL_congr (g := out) fun i hi => by unfold Hp.snoc; rw [if_neg (by omega)]]
  unfold Hp.snoc
  rw [if_pos rfl]
theorem blobL_add (a b : Nat) (f : Nat → Ent) : blobL (a + b) f = blobL a f ++ blobL b (fun x => f (a + x)) := by
  induction b with
  | zero => simp [blobL]
  | succ b ih => rw [← Nat.add_assoc, blobL_succ, ih, blobL_succ, List.append_assoc]
theorem blobL_merge (h j m : Nat) (hj : j ≤ m) (out R : Nat → Ent) : blobL (h + j) out ++ blobL (m - j) (fun x => R (j + x)) = blobL (h + m) (fun x => if x < h + j then out x else R (x - h)) := by
  rw [show h + m = h + j + (m - j) by omega]
  have e1 : blobL (h + j) out = blobL (h + j) (fun x => if x < h + j then out x else R (x - h)) := blobL_congr fun x hx => (if_pos hx).symm
  have e2 : blobL (m - j) (fun x => R (j + x)) = blobL (m - j) (fun x => (fun x => if x < h + j then out x else R (x - h)) (h + j + x)) := blobL_congr fun x hx => by
    show R (j + x) = if h + j + x < h + j then out (h + j + x) else R (h + j + x - h)
    rw [if_neg (by omega)]
    congr 1
    omega
  rw [blobL_add (h + j) (m - j), ← e1, ← e2]
theorem blobL_one (n : Nat) (f : Nat → Ent) : ∀ u ∈ blobL n f, u.oneCell' = true := by
  intro u hu
  unfold blobL at hu
  rw [List.mem_flatMap] at hu
  obtain ⟨i, _, hi⟩ := hu
  exact blobC_one _ u hi

set_option maxHeartbeats 8000000 in
set_option maxRecDepth 100000 in
theorem sorted_any (n : Nat) : ∀ (cap : Nat) (bo : Option Addr) (f : Nat → Ent) (w : World) (_ : n ≤ 1048576) (_ : n ≤ cap) (_ : bo = none → cap = 0) (_ : BC w bo n f),
    Calls Tryz.prog 64 #[.slice bo n cap] w fun r w' => SortPost n f w r w' := by
  obtain ⟨i0, hi0, hz0, hz1, hz2⟩ := info_parts Tryz.infoBlob
  induction n using Nat.strongRecOn with
  | ind n ih =>
    intro cap bo f w hn hcap hbo hB
    by_cases h2 : n < 2
    · have h2' : (n : Int) < 2 := by omega
      have hS : Srt n f := fun i hi => absurd hi (by omega)
      rcases bo with _ | ⟨b, o, p⟩
      · obtain rfl := hbo rfl
        obtain rfl : n = 0 := by omega
        go_enter Tryz.func64, Tryz.ntmps64
        go_wp2_with (at_builtin; refine wpList_append_own_none rfl _ _ 25 rfl w.heap.size 63 i0 2 Tryz.underlying25 hi0 _ _ _ rfl (World.ownsRow_nil _ _ _ _) rfl ?_)
        go_ret
        exact ⟨Below.refl _ _, f, _, rfl, Rearr.refl _ _, hS, World.ownsRow_nil _ _ _ _⟩
      · have hnews := hB.news
        go_enter Tryz.func64, Tryz.ntmps64
        go_wp2_with (at_builtin; refine wpList_append_own _ rfl _ _ 25 rfl w.heap.size 63 i0 (.agg #[.string ⟨#[]⟩, .slice none 0 0]) 2 40 Tryz.underlying25 hi0 hz0 hz1 hz2 rfl (by decide) _ _ _ rfl (World.ownsRow_nil _ _ _ _) ⟨b, o, p⟩ n cap (blobL n f) rfl (blobL_length _ _) hnews (blobL_one _ _) (by unfold maxLen; omega) (by omega) (Nat.le_refl _) ?_; intro v' w' hown' hgrow _)
        go_ret
        exact ⟨(Below.refl _ _).grown hgrow (Nat.le_refl _) (fun k hk => by cases hk), f, _, rfl, Rearr.refl _ _, hS, by simpa using hown'⟩
    · obtain ⟨h, m, hnm, hh, hm0⟩ : ∃ h m, n = h + m ∧ h = n / 2 ∧ 0 < m := ⟨n / 2, n - n / 2, by omega, rfl, by omega⟩
      have hh0 : 0 < h := by omega
      obtain ⟨b, o, rfl, hbl, _⟩ := hB.here (by omega)
      have h2' : ¬ ((n : Int) < 2) := by omega
      have hq1 : (n : Int) / 2 = (h : Int) := by omega
      have hq2 : Int.tdiv (n : Int) 2 = (h : Int) := by rw [Int.tdiv_eq_ediv_of_nonneg (by omega)]; exact hq1
      have hhn : h < n := by omega
      have hhc : (h : Int) ≤ (cap : Int) := by omega
      have K1 := ih h (by omega) cap (some ⟨b, o, none⟩) f w (by omega) (by omega) (fun e => nomatch e) (hB.take (by omega))
      have HN : Hid (n = h + m) := hnm
      clear hnm hh
      have ih' := @ih
      clear ih
      go_enter Tryz.func64, Tryz.ntmps64
      have hB' : ∀ w1, Below w.heap.size w w1 → BC w1 (some ⟨b, o + h * 2, none⟩) m (fun i => f (h + i)) := fun w1 b1 => BC.drop (by rw [← HN.out]; exact hB.below b1 (Nat.le_refl _)) hm0
      have hmn : m < n := by have := HN.out; omega
      have hmc : m ≤ cap - h := by have := HN.out; omega
      have hi1 : (h : Int) ≤ (n : Int) := by omega
      have hcc : ¬ (cap = h) := by omega
      have hnh : n - h = m := by have := HN.out; omega
      go_wp2_with (first
        | (go_at_call 64; (with_reducible refine K1.mono ?_); rintro r w1 ⟨b1, L, vL, rfl, RL, SL, OL⟩; have K2 := ih' m hmn (cap - h) (some ⟨b, o + h * 2, none⟩) (fun i => f (h + i)) w1 (by omega) hmc (fun e => nomatch e) (hB' w1 b1); clear K1)
        | (go_at_call 64; (with_reducible refine K2.mono ?_); rintro r w2 ⟨b2, R, vR, rfl, RR, SR, OR⟩; clear K2))
      obtain ⟨gL, cL, rfl, hgL, _⟩ := OL.form hh0
      obtain ⟨gR, cR, rfl, hgR, hgR2⟩ := OR.form hm0
      have OL2 : ∀ w3, Below w2.heap.size w2 w3 → ∀ i, i < h → w3.cell? ⟨gL, i * 2, none⟩ = some (.string ⟨(L i).k.toArray⟩) ∧ w3.cell? ⟨gL, i * 2 + 1, none⟩ = some (.slice (L i).a (L i).l (L i).c) := fun w3 b3 i hi => by
        have h1 := OL.cellAt (i * 2) (by omega)
        have h2 := OL.cellAt (i * 2 + 1) (by omega)
        rw [show i * 2 = i * 2 + 0 from rfl, blobL_get h L i 0 hi (by omega)] at h1
        rw [blobL_get h L i 1 hi (by omega)] at h2
        have hlt := (OL.lt gL rfl).2
        have hlt2 := b2.size
        exact ⟨((b3.cell (p := ⟨gL, _, none⟩) (show gL < w2.heap.size by omega)).trans (b2.cell (p := ⟨gL, _, none⟩) hlt)).trans h1, ((b3.cell (p := ⟨gL, _, none⟩) (show gL < w2.heap.size by omega)).trans (b2.cell (p := ⟨gL, _, none⟩) hlt)).trans h2⟩
      have OR2 : ∀ w3, Below w2.heap.size w2 w3 → ∀ i, i < m → w3.cell? ⟨gR, i * 2, none⟩ = some (.string ⟨(R i).k.toArray⟩) ∧ w3.cell? ⟨gR, i * 2 + 1, none⟩ = some (.slice (R i).a (R i).l (R i).c) := fun w3 b3 i hi => by
        have h1 := OR.cellAt (i * 2) (by omega)
        have h2 := OR.cellAt (i * 2 + 1) (by omega)
        rw [show i * 2 = i * 2 + 0 from rfl, blobL_get m R i 0 hi (by omega)] at h1
        rw [blobL_get m R i 1 hi (by omega)] at h2
        have hlt := (OR.lt gR rfl).2
        exact ⟨(b3.cell (p := ⟨gR, _, none⟩) hlt).trans h1, (b3.cell (p := ⟨gR, _, none⟩) hlt).trans h2⟩
      have hcR : m ≤ cR ∧ cR ≤ 9223372036854775807 := by
        rcases OR.2 with ⟨q, _⟩ | ⟨g, c, cur, q, _, _, q4, q5, _⟩
        · cases q
        · cases q; exact ⟨q4, q5⟩
      have M0 := MS.start RL RR
      have bB : Below w.heap.size w w2 := b1.trans (b2.mono b1.size)
      have hBB := bB.size
      have p0 : w2.ownsRow w2.heap.size 63 2 (.slice none 0 0) (0 + 0) (blobL (0 + 0) f) := World.ownsRow_nil _ _ _ _
      clear OL OR hgL hgR hgR2 hB hB' ih' RL RR b1 b2
      generalize hBs : w2.heap.size = B at *
      go_loopw [3, 5, 6] (fun vs vb vi wr => ∃ (i j oR c' : Nat) (out : Nat → Ent), i ≤ h ∧ j ≤ m ∧ vi = .int .i64 ((i : Nat) : Int) ∧ vb = .slice (some ⟨gR, oR, none⟩) (m - j) c' ∧ m - j ≤ c' ∧ c' ≤ 9223372036854775807 ∧ (j < m → oR = j * 2) ∧ MS h m f L R i j out ∧ wr.ownsRow B 63 2 vs (i + j) (blobL (i + j) out) ∧ Below B w2 wr) (fun _ _ vi _ => h - (intOf vi).toNat)
      case atStart => exact ⟨0, 0, 0, cR, f, by omega, by omega, rfl, by simp, by omega, by omega, fun _ => by omega, M0, p0, Below.refl _ _⟩
      case round =>
        clear M0 p0
        obtain ⟨i, j, oR, c', out, hi, hj, rfl, rfl, hc1, hc2, ho, M, hown, hb⟩ := hrel
        by_cases hlt : i < h
        · have hlt' : (i : Int) < (h : Int) := by omega
          have hLi : (i : Int) < (h : Int) := hlt'
          go_wp2
          go_loopw [3, 5] (fun vs vb wr => ∃ (j oR c' : Nat) (out : Nat → Ent), j ≤ m ∧ vb = .slice (some ⟨gR, oR, none⟩) (m - j) c' ∧ m - j ≤ c' ∧ c' ≤ 9223372036854775807 ∧ (j < m → oR = j * 2) ∧ MS h m f L R i j out ∧ wr.ownsRow B 63 2 vs (i + j) (blobL (i + j) out) ∧ Below B w2 wr) (fun _ vb _ => match vb with | .slice _ l _ => l | _ => 0)
          case atStart => exact ⟨j, oR, c', out, hj, rfl, hc1, hc2, ho, M, hown, hb⟩
          case round =>
            obtain ⟨j, oR, c', out, hj, rfl, hc1, hc2, ho, M, hown, hb⟩ := hrel
            have hs : B ≤ wr.heap.size := hBs ▸ hb.size
            obtain ⟨cl0, cl1⟩ := OL2 wr hb i hlt
            have hnm2 := HN.out
            have hsum : i + j + 1 ≤ 1048576 := by omega
            clear hnm2
            rcases Nat.lt_or_ge j m with hjm | hjm
            · obtain rfl := ho hjm
              obtain ⟨q, hq⟩ : ∃ q, m - j = q + 1 := ⟨m - j - 1, by omega⟩
              obtain ⟨cr0, cr1⟩ := OR2 wr hb j hjm
              have hqp : (0 : Int) < (q : Int) + 1 := by omega
              have HQ : Hid (m - j = q + 1) := hq
              rw [hq] at hc1 ⊢
              clear hq
              rcases hcmp : Hp.lt (R j).k (L i).k with _ | _
              · have HC := hcmp
                simp only [Hp.lt] at hcmp
                go_wp2
                go_quiet (fail)
                have hb' := below_drewN hb nq
                have hown' : (wr.drewN nq).ownsRow B 63 2 u3 (i + j) (blobL (i + j) out) := hown
                have hs' : B ≤ (wr.drewN nq).heap.size := hs
                replace cl0 : (wr.drewN nq).cell? ⟨gL, i * 2, none⟩ = some (.string ⟨(L i).k.toArray⟩) := cl0
                replace cl1 : (wr.drewN nq).cell? ⟨gL, i * 2 + 1, none⟩ = some (.slice (L i).a (L i).l (L i).c) := cl1
                clear cr0 cr1
                clear hb hown hs
                generalize wr.drewN nq = W at *
                go_wp2_with (at_builtin; refine wpList_append_own _ rfl _ _ 25 rfl B 63 i0 (.agg #[.string ⟨#[]⟩, .slice none 0 0]) 2 40 Tryz.underlying25 hi0 hz0 hz1 hz2 rfl (by decide) _ _ _ rfl (hown'.alloc _) ⟨W.heap.size, 0, none⟩ 1 1 (blobC (L i)) rfl rfl (cell_two_new _ _ _ _) (blobC_one _) (by unfold maxLen; omega) (by omega) (by simp; omega) ?_; intro v' w5 hown5 hgrow _)
                have hn5 : w5.ownsRow B 63 2 v' (i + 1 + j) (blobL (i + 1 + j) (snoc out (i + j) (L i))) := by
                  rw [show i + 1 + j = i + j + 1 by omega, blobL_snoc]
                  exact hown5
                have b5 := hb'.trans (app_below hown' hs' ((Below.refl _ _).alloc (Nat.le_refl _) _) hgrow (Nat.le_refl _))
                clear hown5 hgrow
                go_roundw
                case rel => exact ⟨i + 1, j, j * 2, c', _, by omega, hj, by go_num, by rw [HQ.out], by rw [HQ.out]; exact hc1, hc2, fun _ => rfl, M.left hlt hj SL SR (fun _ => HC), hn5, b5⟩
                case measure => simp [intOf]; omega
              · have HC := hcmp
                simp only [Hp.lt] at hcmp
                have hone : (1 : Int) ≤ (q : Int) + 1 := by omega
                have hcap2 : (q : Int) + 1 ≤ (c' : Int) := by omega
                obtain ⟨oN, hoN, hif⟩ : ∃ oN, (j + 1 < m → oN = (j + 1) * 2) ∧ (if c' = 1 then some (⟨gR, j * 2, none⟩ : Addr) else some ⟨gR, j * 2 + 2, none⟩) = some ⟨gR, oN, none⟩ := by
                  have := HQ.out
                  by_cases e : c' = 1
                  · exact ⟨j * 2, fun _ => by omega, by rw [if_pos e]⟩
                  · exact ⟨j * 2 + 2, fun _ => by omega, by rw [if_neg e]⟩
                go_wp2
                go_quiet (fail)
                have hb' := below_drewN hb nq
                have hown' : (wr.drewN nq).ownsRow B 63 2 u3 (i + j) (blobL (i + j) out) := hown
                have hs' : B ≤ (wr.drewN nq).heap.size := hs
                replace cl0 : (wr.drewN nq).cell? ⟨gL, i * 2, none⟩ = some (.string ⟨(L i).k.toArray⟩) := cl0
                replace cl1 : (wr.drewN nq).cell? ⟨gL, i * 2 + 1, none⟩ = some (.slice (L i).a (L i).l (L i).c) := cl1
                replace cr0 : (wr.drewN nq).cell? ⟨gR, j * 2, none⟩ = some (.string ⟨(R j).k.toArray⟩) := cr0
                replace cr1 : (wr.drewN nq).cell? ⟨gR, j * 2 + 1, none⟩ = some (.slice (R j).a (R j).l (R j).c) := cr1
                clear cl0 cl1
                clear hb hown hs
                generalize wr.drewN nq = W at *
                go_wp2_with (at_builtin; refine wpList_append_own _ rfl _ _ 25 rfl B 63 i0 (.agg #[.string ⟨#[]⟩, .slice none 0 0]) 2 40 Tryz.underlying25 hi0 hz0 hz1 hz2 rfl (by decide) _ _ _ rfl (hown'.alloc _) ⟨W.heap.size, 0, none⟩ 1 1 (blobC (R j)) rfl rfl (cell_two_new _ _ _ _) (blobC_one _) (by unfold maxLen; omega) (by omega) (by simp; omega) ?_; intro v' w5 hown5 hgrow _; have b5 := hb'.trans (app_below hown' hs' ((Below.refl _ _).alloc (Nat.le_refl _) _) hgrow (Nat.le_refl _)); clear hgrow)
                have hn5 : w5.ownsRow B 63 2 v' (i + (j + 1)) (blobL (i + (j + 1)) (snoc out (i + j) (R j))) := by
                  rw [show i + (j + 1) = i + j + 1 by omega, blobL_snoc]
                  exact hown5
                go_roundw
                case rel => exact ⟨j + 1, oN, c' - 1, _, by omega, by rw [show m - (j + 1) = q by have := HQ.out; omega], by have := HQ.out; omega, by omega, hoN, M.right hlt hjm SL SR (Hp.le_of_lt HC), hn5, b5⟩
                case measure => simp
            · have hmj : m - j = 0 := by omega
              rw [hmj] at hc1 ⊢
              have HMJ : Hid (m - j = 0) := hmj
              clear hmj ho
              go_wp2
              go_quiet (fail)
              have hb' := below_drewN hb nq
              have hown' : (wr.drewN nq).ownsRow B 63 2 u3 (i + j) (blobL (i + j) out) := hown
              have hs' : B ≤ (wr.drewN nq).heap.size := hs
              replace cl0 : (wr.drewN nq).cell? ⟨gL, i * 2, none⟩ = some (.string ⟨(L i).k.toArray⟩) := cl0
              replace cl1 : (wr.drewN nq).cell? ⟨gL, i * 2 + 1, none⟩ = some (.slice (L i).a (L i).l (L i).c) := cl1
              clear hb hown hs
              generalize wr.drewN nq = W at *
              go_wp2_with (at_builtin; refine wpList_append_own _ rfl _ _ 25 rfl B 63 i0 (.agg #[.string ⟨#[]⟩, .slice none 0 0]) 2 40 Tryz.underlying25 hi0 hz0 hz1 hz2 rfl (by decide) _ _ _ rfl (hown'.alloc _) ⟨W.heap.size, 0, none⟩ 1 1 (blobC (L i)) rfl rfl (cell_two_new _ _ _ _) (blobC_one _) (by unfold maxLen; omega) (by omega) (by simp; omega) ?_; intro v' w5 hown5 hgrow _)
              have hn5 : w5.ownsRow B 63 2 v' (i + 1 + j) (blobL (i + 1 + j) (snoc out (i + j) (L i))) := by
                rw [show i + 1 + j = i + j + 1 by omega, blobL_snoc]
                exact hown5
              have b5 := hb'.trans (app_below hown' hs' ((Below.refl _ _).alloc (Nat.le_refl _) _) hgrow (Nat.le_refl _))
              clear hown5 hgrow
              go_roundw
              case rel => exact ⟨i + 1, j, oR, c', _, by omega, hj, by go_num, by rw [HMJ.out], by omega, hc2, fun h => absurd h (by omega), M.left hlt hj SL SR (fun h => absurd h (by omega)), hn5, b5⟩
              case measure => simp [intOf]; omega
        · have hfin : i = h := by omega
          rw [hfin] at M hown ⊢
          clear hlt hi hfin
          obtain ⟨F1, F2⟩ := M.done hj SR
          have hnl : ¬ ((h : Int) < (h : Int)) := by omega
          have hs : B ≤ wr.heap.size := hBs ▸ hb.size
          have hnews : ∀ k u, (blobL (m - j) (fun x => R (j + x)))[k]? = some u → wr.cell? ((⟨gR, oR, none⟩ : Addr).add k) = some u := by
            refine BC.news ⟨fun h0 => ⟨gR, oR, rfl, ?_, fun x hx => ?_⟩⟩
            · have := cell_lt (OR2 wr hb 0 hm0).1
              exact this
            · have := OR2 wr hb (j + x) (by omega)
              rw [ho (by omega), show j * 2 + x * 2 = (j + x) * 2 by omega]
              exact this
          have HNo := HN.out
          have hsum : h + j + (m - j) = n := by omega
          have hb2 : blobL (h + j) out ++ blobL (m - j) (fun x => R (j + x)) = blobL n (fun x => if x < h + j then out x else R (x - h)) := by
            rw [HNo]
            exact blobL_merge h j m hj out R
          have HB2 : Hid _ := hb2
          have HS : Hid _ := hsum
          rw [← HNo] at F1 F2
          clear hb2 HNo hsum M ho
          go_wp2_with (at_builtin; refine wpList_append_own _ rfl _ _ 25 rfl B 63 i0 (.agg #[.string ⟨#[]⟩, .slice none 0 0]) 2 40 Tryz.underlying25 hi0 hz0 hz1 hz2 rfl (by decide) _ _ _ rfl hown ⟨gR, oR, none⟩ (m - j) c' (blobL (m - j) (fun x => R (j + x))) rfl (blobL_length _ _) hnews (blobL_one _ _) (by have := HS.out; unfold maxLen; omega) (by have := HS.out; omega) hs ?_; intro v' w5 hown5 hgrow _)
          go_ret
          rw [HS.out, HB2.out] at hown5
          exact ⟨bB.trans ((hb.trans (app_below hown hs (Below.refl _ _) hgrow (Nat.le_refl _))).mono (by omega)), _, _, rfl, F1, F2, hown5.mono (by omega)⟩
end Go.Proofs.YtlghjjennhpjeaaGreatDoor

/-
  The document's mixing of columns: run alone.
-/
namespace Go.Proofs.YtlghjjennhpjeaaGreatDoor
open Go.RowKit Go.Deep Go.Hp

def dotN (r x : Nat → Nat) : Nat → Nat
  | 0 => 0
  | j + 1 => dotN r x j ^^^ mul (r j) (x j)
theorem dotN_lt {r x : Nat → Nat} (hr : ∀ j, r j < 256) : ∀ n, dotN r x n < 256
  | 0 => by simp [dotN]
  | n + 1 => Nat.xor_lt_two_pow (n := 8) (dotN_lt hr n) (mul_lt (hr n))

theorem drewN_addD (w : World) (j n : Nat) : (w.drewN j).drewN n = w.drewN (j + n) := by simp [World.drewN, Nat.add_assoc]
/-- Columns where they lie. -/
structure Cls (w : World) (k L bP : Nat) (a : Nat → Option Addr) (bl cp : Nat → Nat) (x : Nat → Nat → Nat) : Prop where
  col : ∀ j, j < k → w.cell? ⟨bP, j, none⟩ = some (.slice (a j) L (cp j))
  at_ : ∀ j m, j < k → m < L → a j = some ⟨bl j, 0, none⟩ ∧ w.cell? ⟨bl j, m, none⟩ = some (.int .u8 ((x j m : Nat) : Int))

set_option maxHeartbeats 4000000 in
set_option maxRecDepth 100000 in
theorem times_any (k L m br cr bP cP : Nat) (r : Nat → Nat) (a : Nat → Option Addr) (bl cp : Nat → Nat) (x : Nat → Nat → Nat) (w : World) (hr : ∀ j, j < k → w.cell? ⟨br, j, none⟩ = some (.int .u8 ((r j : Nat) : Int))) (hr8 : ∀ j, r j < 256) (hx8 : ∀ j m, x j m < 256) (hC : Cls w k L bP a bl cp x) (hm : m < L) (hk : k ≤ 128) (_hL : L ≤ 1048576) :
    Calls Tryz.prog 65 #[.slice (some ⟨br, 0, none⟩) k cr, .slice (some ⟨bP, 0, none⟩) k cP, .int .i64 ((m : Nat) : Int)] w fun e w' => e = .returned (.int .u8 ((dotN r (fun j => x j m) k : Nat) : Int)) ∧ ∃ q, w' = w.drewN q := by
  go_enter Tryz.func65, Tryz.ntmps65
  go_wp2
  go_loopw [7, 8] (fun vs vi wr => ∃ i q : Nat, i ≤ k ∧ vi = .int .i64 ((i : Nat) : Int) ∧ vs = .int .u8 ((dotN r (fun j => x j m) i : Nat) : Int) ∧ wr = w.drewN q) (fun _ vi _ => k - (intOf vi).toNat)
  case atStart => exact ⟨0, 0, by omega, rfl, rfl, rfl⟩
  case round =>
    obtain ⟨i, q, hi, rfl, rfl, hW⟩ := hrel
    by_cases hlt : i < k
    · have hlt' : (i : Int) < (k : Int) := by omega
      have hm' : (m : Int) < (L : Int) := by omega
      have c0 : wr.cell? ⟨br, i, none⟩ = some (.int .u8 ((r i : Nat) : Int)) := by rw [hW]; exact hr i hlt
      have c1 : wr.cell? ⟨bP, i, none⟩ = some (.slice (a i) L (cp i)) := by rw [hW]; exact hC.col i hlt
      obtain ⟨ea, c2'⟩ := hC.at_ i m hlt hm
      rw [ea] at c1
      have c2 : wr.cell? ⟨bl i, m, none⟩ = some (.int .u8 ((x i m : Nat) : Int)) := by rw [hW]; exact c2'
      have km := rmul_eq (r i) (x i m) (hr8 i) (hx8 i m)
      have hd := dotN_lt (x := fun j => x j m) hr8 i
      have hml := mul_lt (b := x i m) (hr8 i)
      have hstep : dotN r (fun j => x j m) (i + 1) = dotN r (fun j => x j m) i ^^^ mul (r i) (x i m) := rfl
      obtain ⟨D1, e1⟩ : ∃ D, dotN r (fun j => x j m) i = D := ⟨_, rfl⟩
      obtain ⟨M1, e2⟩ : ∃ D, mul (r i) (x i m) = D := ⟨_, rfl⟩
      rw [e2] at km hml hstep
      rw [e1] at hd hstep
      have HS : Hid _ := hstep
      have HW : Hid (wr = w.drewN q) := hW
      clear hstep c2' ea hW
      rw [e1]
      clear e1 e2
      go_wp2
      go_quiet ((go_at_call 38; exact Calls.quiet_of_same (km _)))
      have hxo := u8_xor_nat D1 M1 hd hml
      go_wp2
      go_roundw
      case rel => exact ⟨i + 1, q + nq, by omega, by go_num, by rw [HS.out, hxo], by rw [HW.out, drewN_addD]⟩
      case measure => simp [intOf]; omega
    · obtain rfl : i = k := by omega
      have hnl : ¬ ((i : Int) < (i : Int)) := by omega
      go_wp2
      go_ret
      exact ⟨rfl, q, rfl⟩

theorem Cls.heap {w w' : World} {k L bP : Nat} {a : Nat → Option Addr} {bl cp : Nat → Nat} {x : Nat → Nat → Nat} (h : Cls w k L bP a bl cp x) (hb : ∀ {b o : Nat} {u : Value}, w.cell? ⟨b, o, none⟩ = some u → w'.cell? ⟨b, o, none⟩ = some u) : Cls w' k L bP a bl cp x :=
  ⟨fun j hj => hb (h.col j hj), fun j m hj hm => ⟨(h.at_ j m hj hm).1, hb (h.at_ j m hj hm).2⟩⟩
theorem below_cell {w w' : World} {B : Nat} (h : Below B w w') (hB : w.heap.size ≤ B) {b o : Nat} {u : Value} (hc : w.cell? ⟨b, o, none⟩ = some u) : w'.cell? ⟨b, o, none⟩ = some u :=
  (h.cell (p := ⟨b, o, none⟩) (Nat.lt_of_lt_of_le (cell_lt hc) hB)).trans hc
def numsV (n : Nat) (f : Nat → Nat) : List Value := (List.range n).map fun j => .int .u8 ((f j : Nat) : Int)
theorem numsV_succ (n : Nat) (f : Nat → Nat) : numsV (n + 1) f = numsV n f ++ [.int .u8 ((f n : Nat) : Int)] := by simp [numsV, List.range_succ]
theorem numsV_length (n : Nat) (f : Nat → Nat) : (numsV n f).length = n := by simp [numsV]
theorem numsV_get (n : Nat) (f : Nat → Nat) {i : Nat} (hi : i < n) : (numsV n f)[i]? = some (.int .u8 ((f i : Nat) : Int)) := by simp [numsV, hi]

set_option maxHeartbeats 4000000 in
set_option maxRecDepth 100000 in
theorem mixed_any (k L br cr bP cP : Nat) (r : Nat → Nat) (a : Nat → Option Addr) (bl cp : Nat → Nat) (x : Nat → Nat → Nat) (w : World) (hr : ∀ j, j < k → w.cell? ⟨br, j, none⟩ = some (.int .u8 ((r j : Nat) : Int))) (hr8 : ∀ j, r j < 256) (hx8 : ∀ j m, x j m < 256) (hC : Cls w k L bP a bl cp x) (hk : k ≤ 128) (hL : L ≤ 1048576) :
    Calls Tryz.prog 40 #[.slice (some ⟨br, 0, none⟩) k cr, .slice (some ⟨bP, 0, none⟩) k cP, .int .i64 ((L : Nat) : Int)] w fun e w' => ∃ v, e = .returned v ∧ w'.ownsRow w.heap.size 5 1 v L (numsV L fun m => dotN r (fun j => x j m) k) ∧ Below w.heap.size w w' := by
  obtain ⟨i0, hi0, hz0, hz1, hz2⟩ := info_parts infoB8
  have p0 : w.ownsRow w.heap.size 5 1 (.slice none 0 0) 0 (numsV 0 fun m => dotN r (fun j => x j m) k) := World.ownsRow_nil _ _ _ _
  go_enter Tryz.func40, Tryz.ntmps40
  go_wp2
  generalize hh : w.heap.size = h at *
  go_loopw [7, 8] (fun vs vi wr => ∃ m : Nat, m ≤ L ∧ vi = .int .i64 ((m : Nat) : Int) ∧ wr.ownsRow h 5 1 vs m (numsV m fun m => dotN r (fun j => x j m) k) ∧ Below h w wr) (fun _ vi _ => L - (intOf vi).toNat)
  case atStart => exact ⟨0, by omega, rfl, p0, Below.refl _ _⟩
  case round =>
    clear p0
    obtain ⟨m, hm, rfl, hp, hb⟩ := hrel
    have hs : h ≤ wr.heap.size := hh ▸ hb.size
    by_cases hlt : m < L
    · have hlt' : (m : Int) < (L : Int) := by omega
      have up : ∀ {b o : Nat} {u : Value}, w.cell? ⟨b, o, none⟩ = some u → wr.cell? ⟨b, o, none⟩ = some u := fun hc => below_cell hb (by omega) hc
      have kt := times_any k L m br cr bP cP r a bl cp x wr (fun j hj => up (hr j hj)) hr8 hx8 (hC.heap up) hlt hk hL
      have hstep := numsV_succ m fun m => dotN r (fun j => x j m) k
      generalize hD : dotN r (fun j => x j m) k = D at *
      have HS : Hid _ := hstep
      clear hstep up
      go_wp2_with (first
        | (go_at_call 65; (with_reducible refine kt.mono ?_); rintro e w1 ⟨rfl, q, hq⟩; have hp1 : w1.ownsRow h 5 1 u7 m (numsV m fun m => dotN r (fun j => x j m) k) := (by rw [hq]; exact hp); have hb1 : Below h w w1 := (by rw [hq]; exact below_drewN hb q); have hs1 : h ≤ w1.heap.size := (by rw [hq]; exact hs); clear hp hb hs hq kt)
        | (at_builtin; refine wpList_append_own _ rfl _ _ 24 rfl h 5 i0 (.int .u8 0) 1 1 Tryz.underlying24 hi0 hz0 hz1 hz2 rfl (by decide) _ _ _ rfl (hp1.alloc _) ⟨w1.heap.size, 0, none⟩ 1 1 [.int .u8 ((D : Nat) : Int)] rfl rfl (cell_one_newD _ _ _) (one_u8 _) (by unfold maxLen; omega) (by omega) (by simp; omega) ?_; intro v2 w2 hp2 hgrow _; have hb2 := hb1.trans (app_below hp1 hs1 ((Below.refl w1.heap.size w1).alloc (Nat.le_refl _) _) hgrow (Nat.le_refl _)); clear hgrow hp1 hb1))
      go_roundw
      case rel => exact ⟨m + 1, by omega, by go_num, by rw [HS.out]; exact hp2, hb2⟩
      case measure => simp [intOf]; omega
    · obtain rfl : m = L := by omega
      have hnl : ¬ ((m : Int) < (m : Int)) := by omega
      go_wp2
      go_ret
      exact ⟨_, rfl, hp, hb⟩
end Go.Proofs.YtlghjjennhpjeaaGreatDoor

/-
  What the document's small calls for writing answer.
-/
namespace Go.Proofs.YtlghjjennhpjeaaGreatDoor
open Go.RowKit Go.Deep

theorem below_drewN' {B : Nat} {a w : World} (h : Below B a w) (n : Nat) : Below B a (w.drewN n) := h.trans ⟨rfl, rfl, rfl, Nat.le_refl _, fun _ _ => rfl⟩
/-- Up to a place all names may be. -/
def NamedTo (ns : List (List UInt8)) (c : Nat) : Prop := ∀ i, i < c → (1 ≤ (ns.getD i []).length ∧ (ns.getD i []).length ≤ 255) ∧ (0 < i → notAfter (ns.getD i []) (ns.getD (i - 1) []) = false)
theorem NamedTo.next {ns : List (List UInt8)} {c : Nat} (h : NamedTo ns c) (h1 : 1 ≤ (ns.getD c []).length ∧ (ns.getD c []).length ≤ 255) (h2 : 0 < c → notAfter (ns.getD c []) (ns.getD (c - 1) []) = false) : NamedTo ns (c + 1) := by
  intro i hi
  rcases Nat.lt_or_ge i c with x | x
  · exact h i x
  · obtain rfl : i = c := by omega
    exact ⟨h1, h2⟩

end Go.Proofs.YtlghjjennhpjeaaGreatDoor

/-
  What the document's calls on sizes answer: Total, Length, fitMany, Padding.
-/
namespace Go.Proofs.YtlghjjennhpjeaaGreatDoor
open Go.RowKit Go.Deep

/-- The sizes together; above 65536: 65537. -/
def totI (zs : List Int) : Nat := if tot zs ≤ 65536 then tot zs else 65537

set_option maxHeartbeats 1000000 in
set_option maxRecDepth 100000 in
theorem totalI_any (v : Value) (zs : List Int) (hl : zs.length ≤ 9223372036854775807) (hz : SizesOk zs) (hz2 : ∀ i, zs.getD i 0 ≤ 9223372036854775807) (w : World) (h : Lies w v (intV zs)) :
    Calls Tryz.prog 62 #[v] w fun r w' => r = .returned (.int .i64 (totI zs : Nat)) ∧ w' = w := by
  obtain ⟨ba, cap, rfl, hcap, hc⟩ := h
  rw [intV_length] at hcap ⊢
  go_enter Tryz.func62, Tryz.ntmps62
  go_wp2
  go_loop [3, 4] (fun vt vi => ∃ c t : Nat, c ≤ zs.length ∧ vi = .int .i64 (c : Int) ∧ vt = .int .i64 (t : Int) ∧ t ≤ 65536 ∧ Hid (totTo zs c = t)) (fun _ i => zs.length - (intOf i).toNat)
  case atStart => exact ⟨0, 0, by omega, rfl, rfl, by omega, rfl⟩
  case round =>
    obtain ⟨c, t, hcl, rfl, rfl, ht, H⟩ := hrel
    by_cases hlt : c < zs.length
    · obtain ⟨b, off, rfl, hcell⟩ := hc c _ (intV_at hlt)
      have hzc := hz c hlt
      have hzd := hz2 c
      obtain ⟨z, ez⟩ : ∃ z : Nat, zs.getD c 0 = (z : Int) := ⟨(zs.getD c 0).toNat, by omega⟩
      have H2 : Hid (totTo zs (c + 1) = t + z) := by
        show _ = _
        rw [totTo_succ, ez, H.out]; simp
      have H3 : Hid (totTo zs (c + 1) ≤ tot zs) := totTo_le zs (by omega)
      rw [ez] at hcell hzd
      clear ez hzc hc hz hz2 H
      by_cases hbig : 65536 < z
      · have HT : Hid (totI zs = 65537) := by
          show _ = _
          have := H2.out; have := H3.out
          unfold totI; rw [if_neg (by omega)]
        clear H2 H3
        go_wp2
        go_ret
        exact ⟨by rw [HT.out]; rfl, rfl⟩
      · by_cases hbig2 : 65536 < t + z
        · have HT : Hid (totI zs = 65537) := by
            show _ = _
            have := H2.out; have := H3.out
            unfold totI; rw [if_neg (by omega)]
          clear H2 H3
          go_wp2
          go_ret
          exact ⟨by rw [HT.out]; rfl, rfl⟩
        · clear H3
          go_wp2
          go_round
          case rel => exact ⟨c + 1, t + z, by omega, by go_num, by go_num, by omega, H2⟩
          case measure => simp [intOf]; omega
    · have e : c = zs.length := by omega
      have HT : Hid (totI zs = t) := by
        show _ = _
        have := H.out
        rw [e, totTo_all] at this
        unfold totI; rw [if_pos (by omega), this]
      clear H hc hz hz2
      go_wp2
      go_ret
      exact ⟨ret_i64 (by rw [HT.out]), rfl⟩

theorem lenC_eq {k : Nat} (hk : 1 ≤ k) (t : Nat) : lenC k t = if t / k * k < t then t / k + 1 else t / k := by
  unfold lenC
  have h1 := Nat.div_add_mod t k
  have h2 := Nat.mod_lt t (show 0 < k by omega)
  rw [Nat.mul_comm] at h1
  split
  · rename_i h
    rw [Nat.div_eq_of_lt_le]
    · rw [Nat.add_mul]; omega
    · rw [Nat.add_mul, Nat.add_mul]; omega
  · rename_i h
    rw [Nat.div_eq_of_lt_le]
    · omega
    · rw [Nat.add_mul]; omega

set_option maxHeartbeats 1000000 in
set_option maxRecDepth 100000 in
theorem lengthI_any (K : Int) (k : Nat) (hK : K = k) (hk : 1 ≤ k) (hk2 : k ≤ 255) (v : Value) (zs : List Int) (hl : zs.length ≤ 9223372036854775807) (hz : SizesOk zs) (hz2 : ∀ i, zs.getD i 0 ≤ 9223372036854775807) (ht : tot zs ≤ 65536) (w : World) (h : Lies w v (intV zs)) :
    Calls Tryz.prog 32 #[.int .i64 K, v] w fun r w' => r = .returned (.int .i64 (lenC k (tot zs) : Nat)) ∧ w' = w := by
  subst hK
  have K1 := totalI_any v zs hl hz hz2 w h
  have HL : Hid _ := lenC_eq hk (tot zs)
  have e : totI zs = tot zs := by unfold totI; rw [if_pos ht]
  rw [e] at K1
  obtain ⟨t, et⟩ : ∃ t, tot zs = t := ⟨_, rfl⟩
  rw [et] at K1 HL ht ⊢
  clear et e
  obtain ⟨q, eq⟩ : ∃ q, t / k = q := ⟨_, rfl⟩
  have hq : q ≤ t := eq ▸ Nat.div_le_self _ _
  have hqk : q * k ≤ t := eq ▸ Nat.div_mul_le_self _ _
  rw [eq] at HL
  have W1 : Hid (wrap64 ((t : Int) / (k : Int)) = (q : Int)) := by
    show wrap64 ((t : Int) / (k : Int)) = (q : Int)
    rw [← Int.natCast_ediv, eq]; exact in64 _ (by omega)
  have W2 : Hid (wrap64 ((q : Int) * (k : Int)) = ((q * k : Nat) : Int)) := by
    show wrap64 ((q : Int) * (k : Int)) = ((q * k : Nat) : Int)
    rw [← Int.natCast_mul]; exact in64 _ (by omega)
  have W3 : Hid (wrap64 ((q : Int) + 1) = ((q + 1 : Nat) : Int)) := by
    show wrap64 ((q : Int) + 1) = ((q + 1 : Nat) : Int)
    rw [in64 _ (by omega)]; rfl
  clear hq hqk eq ht
  go_enter Tryz.func32, Tryz.ntmps32
  go_wp2_with (first | (go_at_call 62; refine K1.mono ?_; rintro r w' ⟨rfl, hw'⟩; obtain rfl := hw'.symm))
  · have hx : wrap64 (wrap64 ((t : Int) / (k : Int)) * (k : Int)) < (t : Int) := by assumption
    rw [W1.out, W2.out] at hx
    go_ret
    refine ⟨ret_i64 ?_, rfl⟩
    rw [HL.out, if_pos (by omega), W1.out, W3.out]
  · have hx : (t : Int) ≤ wrap64 (wrap64 ((t : Int) / (k : Int)) * (k : Int)) := by assumption
    rw [W1.out, W2.out] at hx
    go_ret
    refine ⟨ret_i64 ?_, rfl⟩
    rw [HL.out, if_neg (by omega), W1.out]

end Go.Proofs.YtlghjjennhpjeaaGreatDoor

/-
  The document's elimination: rows and steps in memory.
-/
import Derived.Test.YtlghjjennhpjeaaGreatDoorRmA
import Derived.Test.YtlghjjennhpjeaaGreatDoorSvE
import Derived.Test.YtlghjjennhpjeaaGreatDoorSvC
import Derived.Lib.OwnKind
import Derived.StillTailTactics
import Derived.Laws.OwnMore
import Derived.Test.YtlghjjennhpjeaaGreatDoorRowW
import Derived.Test.YtlghjjennhpjeaaGreatDoorSmG
import Derived.Test.YtlghjjennhpjeaaGreatDoorErA
import Derived.Test.YtlghjjennhpjeaaGreatDoorDeB
import Derived.Deep.Onto
namespace Go.Proofs.YtlghjjennhpjeaaGreatDoor
open Go.RowKit Go.Deep

theorem mixedR : Tryz.prog.follows .mixedOrders = true := by kernel_rfl
theorem Tryz.infoS : (Tryz.prog.info? 94).map (fun i => (i.zero, i.size, i.bytes)) = some (some (.agg #[.int .i64 0, .int .i64 0, .int .i64 0, .int .u8 0]), 4, 32) := by kernel_rfl

def bvL (k : Nat) (r : Nat → F) : List Value := (List.range k).map fun j => .int .u8 (((r j).val : Nat) : Int)
def hdL (k : Nat) (bl cp : Nat → Nat) : List Value := (List.range k).map fun i => .slice (some ⟨bl i, 0, none⟩) k (cp i)
def stC (s : F.St) : List Value := [.int .i64 ((s.kind : Nat) : Int), .int .i64 ((s.a : Nat) : Int), .int .i64 ((s.b : Nat) : Int), .int .u8 ((s.z.val : Nat) : Int)]
def stL (l : List F.St) : List Value := l.flatMap stC
theorem stL_snoc (l : List F.St) (s : F.St) : stL (l ++ [s]) = stL l ++ stC s := by simp [stL]
theorem stL_length (l : List F.St) : (stL l).length = l.length * 4 := by
  induction l with
  | nil => rfl
  | cons s l ih => simp only [stL, List.flatMap_cons, List.length_append, List.length_cons] at *; simp only [stC, List.length_cons, List.length_nil]; omega
theorem bvL_get {k : Nat} (r : Nat → F) {j : Nat} (h : j < k) : (bvL k r)[j]? = some (.int .u8 (((r j).val : Nat) : Int)) := by simp [bvL, h]
theorem hdL_get {k : Nat} (bl cp : Nat → Nat) {i : Nat} (h : i < k) : (hdL k bl cp)[i]? = some (.slice (some ⟨bl i, 0, none⟩) k (cp i)) := by simp [hdL, h]
theorem bvL_set {k : Nat} (r : Nat → F) (j : Nat) (x : F) : (bvL k r).set j (.int .u8 ((x.val : Nat) : Int)) = bvL k (fun i => if i = j then x else r i) := by
  apply List.ext_getElem?
  intro i
  rw [List.getElem?_set]
  by_cases h : i < k
  · by_cases e : j = i
    · subst e
      simp [bvL, h]
    · rw [if_neg e, bvL_get _ h, bvL_get _ h, if_neg (fun x => e x.symm)]
  · have h1 : ∀ r : Nat → F, (bvL k r)[i]? = none := fun r => by simp [bvL]; omega
    rw [h1, h1]
    by_cases e : j = i
    · subst e
      simp [bvL]
      omega
    · rw [if_neg e]
theorem hdL_set {k : Nat} (bl cp : Nat → Nat) (j b c : Nat) : (hdL k bl cp).set j (.slice (some ⟨b, 0, none⟩) k c) = hdL k (fun i => if i = j then b else bl i) (fun i => if i = j then c else cp i) := by
  apply List.ext_getElem?
  intro i
  rw [List.getElem?_set]
  by_cases h : i < k
  · by_cases e : j = i
    · subst e
      simp [hdL, h]
    · rw [if_neg e, hdL_get _ _ h, hdL_get _ _ h, if_neg (fun x => e x.symm), if_neg (fun x => e x.symm)]
  · have h1 : ∀ b c : Nat → Nat, (hdL k b c)[i]? = none := fun b c => by simp [hdL]; omega
    rw [h1, h1]
    by_cases e : j = i
    · subst e
      simp [hdL]
      omega
    · rw [if_neg e]

/-- The rows and the steps. -/
structure SS (B k g hc : Nat) (bl cp : Nat → Nat) (m : Nat → Nat → F) (l : List F.St) (vl : Value) (w0 w : World) : Prop where
  head : w.ownsRow B 24 1 (.slice (some ⟨g, 0, none⟩) k hc) k (hdL k bl cp)
  rows : ∀ i, i < k → w.ownsRow B 5 1 (.slice (some ⟨bl i, 0, none⟩) k (cp i)) k (bvL k (m i))
  inj : ∀ i j, i < k → j < k → i ≠ j → bl i ≠ bl j
  st : w.ownsRow B 94 4 vl l.length (stL l)
  bel : Below B w0 w

theorem owns_keepR' {w w' : World} {B e s n : Nat} {v : Value} {xs : List Value} (h : w.ownsRow B e s v n xs) (hk : ∀ g, v.ownBlock = some g → w'.heap[g]? = w.heap[g]?) : w'.ownsRow B e s v n xs := by
  refine ⟨h.1, ?_⟩
  rcases h.2 with h1 | ⟨g, cap, cur, h1, h2, h3, h4⟩
  · exact .inl h1
  · exact .inr ⟨g, cap, cur, h1, h2, by rw [hk g (by rw [h1]; rfl)]; exact h3, h4⟩
section
variable {B k g hc : Nat} {bl cp : Nat → Nat} {m : Nat → Nat → F} {l : List F.St} {vl : Value} {w0 w : World}
theorem SS.h (h : SS B k g hc bl cp m l vl w0 w) {i : Nat} (hi : i < k) : w.cell? ⟨g, i, none⟩ = some (.slice (some ⟨bl i, 0, none⟩) k (cp i)) := (h.head.cellAt i (by omega)).trans (hdL_get _ _ hi)
theorem SS.r (h : SS B k g hc bl cp m l vl w0 w) {i j : Nat} (hi : i < k) (hj : j < k) : w.cell? ⟨bl i, j, none⟩ = some (.int .u8 (((m i j).val : Nat) : Int)) := ((h.rows i hi).cellAt j (by omega)).trans (bvL_get _ hj)
theorem SS.fr (h : SS B k g hc bl cp m l vl w0 w) {i : Nat} (hi : i < k) (j : Nat) : w.frozen? ⟨bl i, j, none⟩ = false := (h.rows i hi).frozenAt j
theorem SS.fh (h : SS B k g hc bl cp m l vl w0 w) (j : Nat) : w.frozen? ⟨g, j, none⟩ = false := h.head.frozenAt j
theorem SS.same {w' : World} (h : SS B k g hc bl cp m l vl w0 w) (e : w'.heap = w.heap) (e1 : w'.os = w.os) (e2 : w'.tape = w.tape) (e3 : w'.output = w.output) : SS B k g hc bl cp m l vl w0 w' := by
  have key : ∀ {v : Value} {t s n : Nat} {xs : List Value}, w.ownsRow B t s v n xs → w'.ownsRow B t s v n xs := fun hx => owns_keepR' hx (fun g _ => by rw [e])
  exact ⟨key h.head, fun i hi => key (h.rows i hi), h.inj, key h.st, ⟨e1.trans h.bel.os, e2.trans h.bel.tape, e3.trans h.bel.output, by rw [e]; exact h.bel.size, fun b hb => by rw [e]; exact h.bel.block b hb⟩⟩
theorem SS.congr {m' : Nat → Nat → F} (h : SS B k g hc bl cp m l vl w0 w) (e : ∀ i j, i < k → j < k → m i j = m' i j) : SS B k g hc bl cp m' l vl w0 w :=
  ⟨h.head, fun i hi => by
    have : bvL k (m' i) = bvL k (m i) := List.map_congr_left fun j hj => by rw [e i j hi (by simpa using hj)]
    rw [this]
    exact h.rows i hi, h.inj, h.st, h.bel⟩
theorem kind_neR {w : World} {B B' t t' s s' n n' : Nat} {v v' : Value} {xs xs' : List Value} (h : w.ownsRow B t s v n xs) (h' : w.ownsRow B' t' s' v' n' xs') (ht : t ≠ t') {b : Nat} (hb : v.ownBlock = some b) : v'.ownBlock ≠ some b := fun hb' => by
  obtain ⟨c1, f1, e1⟩ := Lib.ownsRow_kind h b hb
  obtain ⟨c2, f2, e2⟩ := Lib.ownsRow_kind h' b hb'
  rw [e1] at e2
  cases e2
  exact ht rfl
/-- A step more. -/
theorem SS.push {wa w1 : World} {v' : Value} {s : F.St} (h : SS B k g hc bl cp m l vl w0 w) (ha : Below w.heap.size w wa) (hg : wa.grownBy w1 vl.ownBlock) (ho : w1.ownsRow B 94 4 v' (l.length + 1) (stL l ++ stC s)) (hB : B ≤ w.heap.size) : SS B k g hc bl cp m (l ++ [s]) v' w0 w1 := by
  have key : ∀ {v : Value} {t s n : Nat} {xs : List Value}, t ≠ 94 → w.ownsRow B t s v n xs → w1.ownsRow B t s v n xs := fun ht hx => owns_keepR' hx (fun b hb => by
    have hlt := (hx.lt b hb).2
    rw [hg.block b (by have := ha.size; omega) (fun e => kind_neR hx h.st ht hb e.symm)]
    exact ha.block b hlt)
  refine ⟨key (by decide) h.head, fun i hi => key (by decide) (h.rows i hi), h.inj, by rw [stL_snoc, List.length_append]; exact ho, ?_⟩
  exact (h.bel.trans (ha.mono hB)).grown hg (by have := ha.size; omega) (fun b hb => (h.st.lt b hb).1)
/-- A byte is written. -/
theorem SS.set (h : SS B k g hc bl cp m l vl w0 w) {i j : Nat} (hi : i < k) (x : F) : SS B k g hc bl cp (fun i' j' => if i' = i ∧ j' = j then x else m i' j') l vl w0 (w.setCell ⟨bl i, j, none⟩ (.int .u8 ((x.val : Nat) : Int))) := by
  have hb : (Value.slice (some ⟨bl i, 0, none⟩) k (cp i)).ownBlock = some (bl i) := rfl
  have key : ∀ {v : Value} {t s n : Nat} {xs : List Value}, v.ownBlock ≠ some (bl i) → w.ownsRow B t s v n xs → (w.setCell ⟨bl i, j, none⟩ (.int .u8 ((x.val : Nat) : Int))).ownsRow B t s v n xs := fun hne hx => owns_keepR' hx (fun b hb' => Below.heap_setCell _ _ _ _ (fun e : b = bl i => hne (e ▸ hb')))
  refine ⟨key (fun e => kind_neR h.head (h.rows i hi) (by decide) rfl (by rw [hb]; exact e ▸ rfl)) h.head, fun i' hi' => ?_, h.inj, key (fun e => kind_neR (h.rows i hi) h.st (by decide) hb e) h.st, h.bel.setCell ((h.rows i hi).lt _ hb).1 _⟩
  by_cases e : i' = i
  · subst e
    have := ((h.rows i' hi).stored j (.int .u8 ((x.val : Nat) : Int))).1
    rw [bvL_set] at this
    have e2 : bvL k (fun j' => if i' = i' ∧ j' = j then x else m i' j') = bvL k (fun j' => if j' = j then x else m i' j') := List.map_congr_left fun j' _ => by simp
    rw [e2]
    exact this
  · have e2 : bvL k (fun j' => if i' = i ∧ j' = j then x else m i' j') = bvL k (m i') := List.map_congr_left fun j' _ => by simp only [if_neg (fun x : i' = i ∧ j' = j => e x.1)]
    rw [e2]
    exact key (fun x => h.inj i' i hi' hi e (Option.some.inj x)) (h.rows i' hi')
def swpR (a b : Nat) (f : Nat → Nat) (i : Nat) : Nat := if i = b then f a else if i = a then f b else f i
/-- Two rows change places. -/
theorem SS.swap (h : SS B k g hc bl cp m l vl w0 w) {a b : Nat} (ha : a < k) (hb : b < k) :
    SS B k g hc (swpR a b bl) (swpR a b cp) (F.apM ⟨0, a, b, 0⟩ m) l vl w0 ((w.setCell ⟨g, a, none⟩ (.slice (some ⟨bl b, 0, none⟩) k (cp b))).setCell ⟨g, b, none⟩ (.slice (some ⟨bl a, 0, none⟩) k (cp a))) := by
  have hg : (Value.slice (some ⟨g, 0, none⟩) k hc).ownBlock = some g := rfl
  have key : ∀ {v : Value} {t s n : Nat} {xs : List Value}, t ≠ 24 → w.ownsRow B t s v n xs → ((w.setCell ⟨g, a, none⟩ (.slice (some ⟨bl b, 0, none⟩) k (cp b))).setCell ⟨g, b, none⟩ (.slice (some ⟨bl a, 0, none⟩) k (cp a))).ownsRow B t s v n xs := fun ht hx => owns_keepR' hx (fun x hx' => by
    have hne : x ≠ g := fun e => kind_neR hx h.head ht hx' (by rw [hg, e])
    rw [Below.heap_setCell _ _ _ _ hne, Below.heap_setCell _ _ _ _ hne])
  have h1 := (h.head.stored a (.slice (some ⟨bl b, 0, none⟩) k (cp b))).1
  have h2 := (h1.stored b (.slice (some ⟨bl a, 0, none⟩) k (cp a))).1
  rw [hdL_set, hdL_set] at h2
  have hge := (h.head.lt _ hg).1
  refine ⟨?_, fun i hi => ?_, fun i j hi hj hij => ?_, key (by decide) h.st, (h.bel.setCell hge _).setCell hge _⟩
  · exact h2
  · unfold swpR
    have hm : ∀ j, F.apM ⟨0, a, b, 0⟩ m i j = if i = b then m a j else if i = a then m b j else m i j := fun j => by
      unfold F.apM F.ap
      rw [if_pos rfl]
      by_cases e1 : i = a
      · by_cases e2 : i = b
        · subst e1 e2; simp
        · simp [e1]
          intro e3
          rw [e3]
      · by_cases e2 : i = b
        · simp [e2, show b ≠ a from fun e => e1 (e2.trans e)]
        · simp [e1, e2]
    have e2 : bvL k (F.apM ⟨0, a, b, 0⟩ m i) = bvL k (fun j => if i = b then m a j else if i = a then m b j else m i j) := List.map_congr_left fun j _ => by rw [hm]
    rw [e2]
    split
    · exact key (by decide) (h.rows a ha)
    · split
      · exact key (by decide) (h.rows b hb)
      · exact key (by decide) (h.rows i hi)
  · unfold swpR
    intro e
    have := h.inj
    by_cases i1 : i = b
    · by_cases j1 : j = b
      · omega
      · rw [if_pos i1, if_neg j1] at e
        by_cases j2 : j = a
        · rw [if_pos j2] at e
          by_cases hab : a = b
          · omega
          · exact this a b ha hb hab e
        · rw [if_neg j2] at e
          exact this a j ha hj (Ne.symm j2) e
    · rw [if_neg i1] at e
      by_cases i2 : i = a
      · rw [if_pos i2] at e
        by_cases j1 : j = b
        · rw [if_pos j1] at e
          by_cases hab : a = b
          · omega
          · exact this b a hb ha (Ne.symm hab) e
        · rw [if_neg j1, if_neg (by omega)] at e
          exact this b j hb hj (Ne.symm j1) e
      · rw [if_neg i2] at e
        by_cases j1 : j = b
        · rw [if_pos j1] at e
          exact this i a hi ha i2 e
        · rw [if_neg j1] at e
          by_cases j2 : j = a
          · rw [if_pos j2] at e
            exact this i b hi hb i1 e
          · rw [if_neg j2] at e
            exact this i j hi hj hij e
end
end Go.Proofs.YtlghjjennhpjeaaGreatDoor

/-
  The document's elimination: run alone.
-/
namespace Go.Proofs.YtlghjjennhpjeaaGreatDoor
open Go.RowKit Go.Deep

def SolvePost (B k : Nat) (M : Nat → Nat → F) (w : World) (e : Ending) (w' : World) : Prop := ∃ v m l, e = .returned v ∧ w'.ownsRow B 94 4 v l.length (stL l) ∧ F.Rs k M m l ∧ F.UnitTo k k m ∧ Below B w w' ∧ l.length ≤ k * (k + 2)
def OutI (B k g hc : Nat) (M : Nat → Nat → F) (w : World) (vl vc : Value) (wr : World) : Prop := ∃ c m l bl cp, c ≤ k ∧ vc = .int .i64 ((c : Nat) : Int) ∧ SS B k g hc bl cp m l vl w wr ∧ F.Rs k M m l ∧ F.UnitTo k c m ∧ l.length ≤ c * (k + 2)
def AddI (B k g hc : Nat) (bl cp : Nat → Nat) (M : Nat → Nat → F) (c : Nat) (w : World) (vl vi : Value) (wr : World) : Prop := ∃ i m l, i ≤ k ∧ vi = .int .i64 ((i : Nat) : Int) ∧ SS B k g hc bl cp m l vl w wr ∧ F.El k M c i m l ∧ l.length ≤ c * (k + 2) + 2 + i
theorem cell_four_new (w : World) (x y z u : Value) (t : TypeId) : ∀ j v, [x, y, z, u][j]? = some v → (w.alloc (.cells #[x, y, z, u] t)).cell? ((⟨w.heap.size, 0, none⟩ : Addr).add j) = some v := by
  intro j v hj
  match j, hj with
  | 0, hj => simp at hj; subst hj; simp [Addr.add]
  | 1, hj => simp at hj; subst hj; simp [Addr.add]
  | 2, hj => simp at hj; subst hj; simp [Addr.add]
  | 3, hj => simp at hj; subst hj; simp [Addr.add]
theorem stC_one (s : F.St) : ∀ u ∈ stC s, u.oneCell' = true := by
  intro u hu
  simp only [stC, List.mem_cons, List.not_mem_nil, or_false] at hu
  rcases hu with rfl | rfl | rfl | rfl <;> rfl

theorem wp_region_tailR {P : Program} {id : Nat} {Q : Exit → Act → World → Prop} {a : Act} {w : World} {l : List Oper} (n : Nat) (hm : P.follows .mixedOrders = true) (hB : Region.lexTailB .any l.toArray n = true)
    (h : wpStill P l.toArray w.drew (fun a' => wpList P l.toArray Q (l.drop n) a' w.drew) (l.take n) a) : (Code.region id l.toArray true).wp P Q a w := wp_region_still_tail n hm hB h
/-- Row c multiplied, as far as place j. -/
def sc (m : Nat → Nat → F) (c : Nat) (z : F) (j i' j' : Nat) : F := if i' = c ∧ j' < j then F.mu (m i' j') z else m i' j'
/-- Row c times z added to row i, as far as place j. -/
def ad (m : Nat → Nat → F) (i c : Nat) (z : F) (j i' j' : Nat) : F := if i' = i ∧ j' < j then F.add (m i' j') (F.mu z (m c j')) else m i' j'
theorem sc_here (m : Nat → Nat → F) (c : Nat) (z : F) (j : Nat) : sc m c z j c j = m c j := by unfold sc; rw [if_neg (by omega)]
theorem ad_here (m : Nat → Nat → F) (i c : Nat) (z : F) (j : Nat) : ad m i c z j i j = m i j := by unfold ad; rw [if_neg (by omega)]
theorem ad_c {i c : Nat} (m : Nat → Nat → F) (h : i ≠ c) (z : F) (j j' : Nat) : ad m i c z j c j' = m c j' := by unfold ad; rw [if_neg (by omega)]
theorem sc_next (m : Nat → Nat → F) (c : Nat) (z : F) (j : Nat) {k : Nat} : ∀ i' j', i' < k → j' < k → (if i' = c ∧ j' = j then F.mu (m c j) z else sc m c z j i' j') = sc m c z (j + 1) i' j' := fun i' j' _ _ => by
  unfold sc
  by_cases e1 : i' = c
  · subst e1
    by_cases e2 : j' = j
    · subst e2
      rw [if_pos ⟨rfl, rfl⟩, if_pos ⟨rfl, by omega⟩]
    · rw [if_neg (fun x => e2 x.2)]
      by_cases e3 : j' < j
      · rw [if_pos ⟨rfl, e3⟩, if_pos ⟨rfl, by omega⟩]
      · rw [if_neg (fun x => e3 x.2), if_neg (fun x => by have := x.2; omega)]
  · rw [if_neg (fun x => e1 x.1), if_neg (fun x => e1 x.1), if_neg (fun x => e1 x.1)]
theorem sc_end (m : Nat → Nat → F) (c : Nat) (z : F) (k : Nat) : ∀ i' j', i' < k → j' < k → sc m c z k i' j' = F.apM ⟨1, c, c, z⟩ m i' j' := fun i' j' _ hj => by
  unfold sc
  by_cases e1 : i' = c
  · subst e1
    rw [if_pos ⟨rfl, hj⟩]
    simp [F.apM, F.ap]
  · rw [if_neg (fun x => e1 x.1)]
    simp [F.apM, F.ap, e1]
theorem ad_next (m : Nat → Nat → F) (i c : Nat) (z : F) (j : Nat) {k : Nat} : ∀ i' j', i' < k → j' < k → (if i' = i ∧ j' = j then F.add (m i j) (F.mu z (m c j)) else ad m i c z j i' j') = ad m i c z (j + 1) i' j' := fun i' j' _ _ => by
  unfold ad
  by_cases e1 : i' = i
  · subst e1
    by_cases e2 : j' = j
    · subst e2
      rw [if_pos ⟨rfl, rfl⟩, if_pos ⟨rfl, by omega⟩]
    · rw [if_neg (fun x => e2 x.2)]
      by_cases e3 : j' < j
      · rw [if_pos ⟨rfl, e3⟩, if_pos ⟨rfl, by omega⟩]
      · rw [if_neg (fun x => e3 x.2), if_neg (fun x => by have := x.2; omega)]
  · rw [if_neg (fun x => e1 x.1), if_neg (fun x => e1 x.1), if_neg (fun x => e1 x.1)]
theorem ad_end (m : Nat → Nat → F) (i c : Nat) (z : F) (k : Nat) : ∀ i' j', i' < k → j' < k → ad m i c z k i' j' = F.apM ⟨2, i, c, z⟩ m i' j' := fun i' j' _ hj => by
  unfold ad
  by_cases e1 : i' = i
  · subst e1
    rw [if_pos ⟨rfl, hj⟩]
    simp [F.apM, F.ap]
  · rw [if_neg (fun x => e1 x.1)]
    simp [F.apM, F.ap, e1]
theorem refMul_val (a b : F) : refMul a.val b.val = (F.mu a b).val := refMul_eq a.isLt b.isLt

set_option maxHeartbeats 8000000 in
set_option maxRecDepth 100000 in
theorem solve_any (B k g hc : Nat) (bl cp : Nat → Nat) (M : Nat → Nat → F) (w : World) (hk : k ≤ 128) (hB : B ≤ w.heap.size) (h0 : SS B k g hc bl cp M [] (.slice none 0 0) w w) (hi : F.Inj k M) :
    Calls Tryz.prog 37 #[.slice (some ⟨g, 0, none⟩) k hc] w fun e w' => SolvePost B k M w e w' := by
  obtain ⟨i0, hi0, hz0, hz1, hz2⟩ := info_parts Tryz.infoS
  go_enter Tryz.func37, Tryz.ntmps37
  go_wp2
  go_loopw [3, 5, 6, 7, 8, 9, 10, 11] (fun vl vc _ _ _ _ _ _ wr => OutI B k g hc M w vl vc wr) (fun _ vc _ _ _ _ _ _ _ => k - (intOf vc).toNat)
  case atStart => exact ⟨0, M, [], bl, cp, by omega, rfl, h0, F.rs_start k M, fun _ _ _ h => absurd h (by omega), by simp⟩
  case round =>
    clear h0
    obtain ⟨c, m, l, bl', cp', hck, rfl, hS, hR, hU, hll⟩ := hrel
    by_cases hlt : c < k
    · have hlt' : (c : Int) < (k : Int) := by omega
      go_wp2
      go_loopw [6] (fun vr wq => ∃ r : Nat, c ≤ r ∧ r ≤ k ∧ vr = .int .i64 ((r : Nat) : Int) ∧ (∀ i, c ≤ i → i < r → m i c = 0) ∧ wq = wr) (fun i _ => k - (intOf i).toNat)
      case atStart => exact ⟨c, by omega, by omega, rfl, fun i h1 h2 => absurd h2 (by omega), rfl⟩
      case round =>
        obtain ⟨r, hr1, hr2, rfl, hz, rfl⟩ := hrel
        by_cases hrk : r < k
        · have hrk' : (r : Int) < (k : Int) := by omega
          have g1 := hS.h hrk
          have g2 := hS.r hrk hlt
          by_cases hne : m r c = 0
          · have hv : (m r c).val = 0 := by rw [hne]; rfl
            rw [hv] at g2
            go_wp2
            go_roundw
            case rel =>
              refine ⟨r + 1, by omega, by omega, by go_num, fun i h1 h2 => ?_, trivial⟩
              by_cases e : i = r
              · rw [e]; exact hne
              · exact hz i h1 (by omega)
            case measure => simp [intOf]; omega
          · have hv : ((((m r c).val : Nat) : Int) == 0) = false := by
              have : (m r c).val ≠ 0 := fun e => hne (Fin.ext e)
              simp; omega
            have hrk2 : ((r : Int) == (k : Int)) = false := by simp; omega
            have hbd : c * (k + 2) ≤ 128 * 130 := Nat.mul_le_mul (by omega) (by omega)
            have hBr : B ≤ wr.heap.size := Nat.le_trans hB hS.bel.size
            clear hz
            go_wp2_with (at_builtin; refine wpList_append_own _ rfl _ _ 91 rfl B 94 i0 (.agg #[.int .i64 0, .int .i64 0, .int .i64 0, .int .u8 0]) 4 32 Tryz.underlying91 hi0 hz0 hz1 hz2 rfl (by decide) _ _ _ rfl (hS.st.alloc _) ⟨wr.heap.size, 0, none⟩ 1 1 (stC ⟨0, c, r, 0⟩) rfl rfl (cell_four_new _ _ _ _ _ _) (stC_one _) (by unfold maxLen; omega) (by omega) (by simp; omega) ?_; intro v' w1 hown' hgrow _)
            have hS1 := hS.push (s := ⟨0, c, r, 0⟩) ((Below.refl wr.heap.size wr).alloc (Nat.le_refl _) _) hgrow hown' hBr
            have hB1 : B ≤ w1.heap.size := Nat.le_trans hB hS1.bel.size
            clear hown' hgrow hS hBr g1 g2
            have a1 := hS1.h hlt
            have a2 := hS1.h hrk
            have f1 := hS1.fh c
            have f2 := hS1.fh r
            have hS2 := hS1.swap hlt hrk
            have d0 := (hS1.head.stored c (.slice (some ⟨bl' r, 0, none⟩) k (cp' r))).1
            have d1 : ∃ y, (w1.setCell ⟨g, c, none⟩ (.slice (some ⟨bl' r, 0, none⟩) k (cp' r))).cell? ⟨g, r, none⟩ = some y := by
              rw [d0.cellAt r (by omega), hdL_set]
              exact ⟨_, hdL_get _ _ hrk⟩
            obtain ⟨y, d1⟩ := d1
            have d2 := d0.frozenAt r
            clear d0
            go_wp2
            go_region
            have hS3 := hS2.same (w' := ((w1.setCell ⟨g, c, none⟩ (.slice (some ⟨bl' r, 0, none⟩) k (cp' r))).setCell ⟨g, r, none⟩ (.slice (some ⟨bl' c, 0, none⟩) k (cp' c))).drew) rfl rfl rfl rfl
            have hB3 : B ≤ (((w1.setCell ⟨g, c, none⟩ (.slice (some ⟨bl' r, 0, none⟩) k (cp' r))).setCell ⟨g, r, none⟩ (.slice (some ⟨bl' c, 0, none⟩) k (cp' c))).drew).heap.size := Nat.le_trans hB hS3.bel.size
            have em : F.apM ⟨0, c, r, 0⟩ m c c = m r c := by simp [F.apM, F.ap]
            have hE := F.el_start hR hU hlt hr1 hrk hne
            clear hS1 hS2 a1 a2 f1 f2 d1 d2 hB1
            generalize (((w1.setCell ⟨g, c, none⟩ (.slice (some ⟨bl' r, 0, none⟩) k (cp' r))).setCell ⟨g, r, none⟩ (.slice (some ⟨bl' c, 0, none⟩) k (cp' c))).drew) = w3 at *
            generalize swpR c r bl' = bl3 at *
            generalize swpR c r cp' = cp3 at *
            generalize F.apM ⟨0, c, r, 0⟩ m = m1 at *
            have g1 := hS3.h hlt
            have g2 := hS3.r hlt hlt
            rw [em] at g2
            have ci := fun u => rinv_any (m r c).val (m r c).isLt u
            have ez : inv (m r c).val = (F.iv (m r c)).val := rfl
            rw [ez] at ci
            generalize F.iv (m r c) = z at *
            clear ez
            go_wp2_with (first | (go_at_call 63; (with_reducible refine (ci _).mono ?_); rintro e w' ⟨rfl, hw'⟩; obtain rfl := hw'.symm) | (at_builtin; refine wpList_append_own _ rfl _ _ 91 rfl B 94 i0 (.agg #[.int .i64 0, .int .i64 0, .int .i64 0, .int .u8 0]) 4 32 Tryz.underlying91 hi0 hz0 hz1 hz2 rfl (by decide) _ _ _ rfl (hS3.st.alloc _) ⟨w3.heap.size, 0, none⟩ 1 1 (stC ⟨1, c, c, z⟩) rfl rfl (cell_four_new _ _ _ _ _ _) (stC_one _) (by unfold maxLen; simp; omega) (by simp; omega) (by simp; omega) ?_; intro v4 w4 hown4 hgrow4 _))
            have hS4 := hS3.push (s := ⟨1, c, c, z⟩) ((Below.refl w3.heap.size w3).alloc (Nat.le_refl _) _) hgrow4 hown4 hB3
            clear hown4 hgrow4 hS3 g1 g2 ci
            go_wp2
            go_loopw [8] (fun vj wq => ∃ j : Nat, j ≤ k ∧ vj = .int .i64 ((j : Nat) : Int) ∧ SS B k g hc bl3 cp3 (sc m1 c z j) (l ++ [⟨0, c, r, 0⟩] ++ [⟨1, c, c, z⟩]) v4 w wq) (fun i _ => k - (intOf i).toNat)
            case atStart => exact ⟨0, by omega, rfl, hS4.congr fun i j _ _ => by unfold sc; rw [if_neg (by omega)]⟩
            case round =>
              clear hS4
              obtain ⟨j, hj, rfl, hS5⟩ := hrel
              by_cases hjk : j < k
              · have hjk' : (j : Int) < (k : Int) := by omega
                have g1 := hS5.h hlt
                have g2 := hS5.r hlt hjk
                rw [sc_here] at g2
                have f1 := hS5.fr hlt j
                have cm := fun u => rmul_any (m1 c j).val z.val (m1 c j).isLt z.isLt u
                rw [refMul_val] at cm
                have hS6 := (hS5.set (j := j) hlt (F.mu (m1 c j) z)).congr (m' := sc m1 c z (j + 1)) (sc_next m1 c z j)
                generalize F.mu (m1 c j) z = mz at *
                clear hS5
                go_wp2_with fail
                refine wp_region_tailR 15 mixedR (by kernel_rfl) ?_
                simp only [List.take_succ_cons, List.take_zero, List.drop_succ_cons, List.drop_zero]
                repeat still_step
                still_call (cm _)
                repeat still_step
                refine wpStill_nil ?_
                go_wp2
                have hS7 := hS6.same (w' := (wr.setCell ⟨bl3 c, j, none⟩ (.int .u8 ((mz.val : Nat) : Int))).drew) rfl rfl rfl rfl
                go_roundw
                case rel => exact ⟨j + 1, by omega, by go_num, hS7⟩
                case measure => simp [intOf]; omega
              · obtain rfl : j = k := by omega
                have hS6 := hS5.congr (m' := F.apM ⟨1, c, c, z⟩ m1) (sc_end m1 c z j)
                have hnl : ¬ ((j : Int) < (j : Int)) := by omega
                have hl2 : (l ++ [⟨0, c, r, 0⟩] ++ [⟨1, c, c, z⟩] : List F.St).length ≤ c * (j + 2) + 2 := by simp; omega
                have h0 : AddI B j g hc bl3 cp3 M c w v4 (.int .i64 0) wr := ⟨0, _, _, by omega, rfl, hS6, hE, by omega⟩
                clear hS5 hS6 hE hl2 hR hU
                go_wp2
                go_loopw [3, 9, 10, 11] (fun vl vi _ _ wq => AddI B j g hc bl3 cp3 M c w vl vi wq) (fun _ vi _ _ _ => j - (intOf vi).toNat)
                case atStart => exact h0
                case round =>
                  clear h0
                  obtain ⟨i, m2, l2, hik, rfl, hS, hE, hl2⟩ := hrel
                  by_cases hij : i < j
                  · have hij' : (i : Int) < (j : Int) := by omega
                    have g1 := hS.h hij
                    have g2 := hS.r hij hlt
                    by_cases hic : i = c
                    · subst hic
                      have hE2 := hE.skip (.inl rfl)
                      go_wp2
                      go_roundw
                      case rel => exact ⟨i + 1, m2, l2, by omega, by go_num, hS, hE2, by omega⟩
                      case measure => simp [intOf]; omega
                    · have hic' : ((i : Int) == (c : Int)) = false := by simp; omega
                      by_cases hz0' : m2 i c = 0
                      · have hE2 := hE.skip (.inr hz0')
                        rw [show (m2 i c).val = 0 by rw [hz0']; rfl] at g2
                        go_wp2
                        go_roundw
                        case rel => exact ⟨i + 1, m2, l2, by omega, by go_num, hS, hE2, by omega⟩
                        case measure => simp [intOf]; omega
                      · have hv' : ((((m2 i c).val : Nat) : Int) == 0) = false := by
                          have : (m2 i c).val ≠ 0 := fun e => hz0' (Fin.ext e)
                          simp; omega
                        have hBr : B ≤ wr.heap.size := Nat.le_trans hB hS.bel.size
                        have hE2 := hE.add hlt hij hic
                        generalize ezz : m2 i c = zz at *
                        go_wp2_with (at_builtin; refine wpList_append_own _ rfl _ _ 91 rfl B 94 i0 (.agg #[.int .i64 0, .int .i64 0, .int .i64 0, .int .u8 0]) 4 32 Tryz.underlying91 hi0 hz0 hz1 hz2 rfl (by decide) _ _ _ rfl (hS.st.alloc _) ⟨wr.heap.size, 0, none⟩ 1 1 (stC ⟨2, i, c, zz⟩) rfl rfl (cell_four_new _ _ _ _ _ _) (stC_one _) (by unfold maxLen; omega) (by omega) (by simp; omega) ?_; intro v' w1 hown' hgrow _)
                        have hS1 := hS.push (s := ⟨2, i, c, zz⟩) ((Below.refl wr.heap.size wr).alloc (Nat.le_refl _) _) hgrow hown' hBr
                        clear hown' hgrow hS hBr g1 g2 hE
                        go_wp2
                        go_loopw [11] (fun vj wq => ∃ t : Nat, t ≤ j ∧ vj = .int .i64 ((t : Nat) : Int) ∧ SS B j g hc bl3 cp3 (ad m2 i c zz t) (l2 ++ [⟨2, i, c, zz⟩]) v' w wq) (fun x _ => j - (intOf x).toNat)
                        case atStart => exact ⟨0, by omega, rfl, hS1.congr fun i' j' _ _ => by unfold ad; rw [if_neg (by omega)]⟩
                        case round =>
                          clear hS1
                          obtain ⟨t, htj, rfl, hS5⟩ := hrel
                          by_cases htk : t < j
                          · have htk' : (t : Int) < (j : Int) := by omega
                            have g1 := hS5.h hij
                            have g2 := hS5.r hij htk
                            have g3 := hS5.h hlt
                            have g4 := hS5.r hlt htk
                            rw [ad_here] at g2
                            rw [ad_c m2 hic] at g4
                            have f1 := hS5.fr hij t
                            have cm := fun u => rmul_any zz.val (m2 c t).val zz.isLt (m2 c t).isLt u
                            rw [refMul_val] at cm
                            have hx := u8_xor_nat (m2 i t).val (F.mu zz (m2 c t)).val (m2 i t).isLt (F.mu zz (m2 c t)).isLt
                            rw [show (m2 i t).val ^^^ (F.mu zz (m2 c t)).val = (F.add (m2 i t) (F.mu zz (m2 c t))).val from rfl] at hx
                            have hS6 := (hS5.set (j := t) hij (F.add (m2 i t) (F.mu zz (m2 c t)))).congr (m' := ad m2 i c zz (t + 1)) (ad_next m2 i c zz t)
                            generalize F.add (m2 i t) (F.mu zz (m2 c t)) = az at *
                            generalize F.mu zz (m2 c t) = mz at *
                            clear hS5
                            go_wp2_with fail
                            refine wp_region_tailR 23 mixedR (by kernel_rfl) ?_
                            simp only [List.take_succ_cons, List.take_zero, List.drop_succ_cons, List.drop_zero]
                            repeat still_step
                            still_call (cm _)
                            repeat still_step
                            refine wpStill_nil ?_
                            go_wp2
                            have hS7 := hS6.same (w' := (wr.setCell ⟨bl3 i, t, none⟩ (.int .u8 ((az.val : Nat) : Int))).drew) rfl rfl rfl rfl
                            go_roundw
                            case rel => exact ⟨t + 1, by omega, by go_num, hS7⟩
                            case measure => simp [intOf]; omega
                          · obtain rfl : t = j := by omega
                            have hS6 := hS5.congr (m' := F.apM ⟨2, i, c, zz⟩ m2) (ad_end m2 i c zz t)
                            have hnl3 : ¬ ((t : Int) < (t : Int)) := by omega
                            go_wp2
                            go_roundw
                            case rel => exact ⟨i + 1, _, _, by omega, by go_num, hS6, hE2, by simp; omega⟩
                            case measure => simp [intOf]; omega
                  · obtain rfl : i = j := by omega
                    have hnl2 : ¬ ((i : Int) < (i : Int)) := by omega
                    go_wp2
                    go_roundw
                    case rel => exact ⟨c + 1, m2, l2, bl3, cp3, by omega, by go_num, hS, hE.rs, hE.done hlt, by rw [Nat.succ_mul]; omega⟩
                    case measure => simp [intOf]; omega
        · obtain rfl : r = k := by omega
          obtain ⟨r', h1, h2, h3⟩ := hR.pivot hi hU hlt
          exact absurd (hz r' h1 h2) h3
    · obtain rfl : c = k := by omega
      have hnl : ¬ ((c : Int) < (c : Int)) := by omega
      go_wp2
      go_ret
      exact ⟨_, m, l, rfl, hS.st, hR, hU, hS.bel, hll⟩
end Go.Proofs.YtlghjjennhpjeaaGreatDoor

/-
  The document's answer in plain words, and that it is the program's.
-/
namespace Go.Proofs.YtlghjjennhpjeaaGreatDoor
open Go.RowKit Go.Deep

theorem placed_ex {k : Nat} {ix : Nat → Nat} (hi : ∀ i j, i < k → j < k → i ≠ j → ix i ≠ ix j) : ∃ σ, Placed k ix σ := by
  have key : ∀ c, c ≤ k → ∃ fl O, Pl k ix c fl O := fun c => by
    induction c with
    | zero => exact fun _ => ⟨_, _, pl_start k ix⟩
    | succ c ih =>
      intro hc
      obtain ⟨fl, O, h⟩ := ih (by omega)
      rcases Nat.lt_or_ge (ix c) k with h1 | h1
      · exact ⟨_, _, (h.own (fun i hic => hi i c (by omega) (by omega) (by omega)) h1).2⟩
      · exact ⟨_, _, h.other h1⟩
  obtain ⟨fl, O, h⟩ := key k (Nat.le_refl _)
  exact ⟨_, h.placed hi⟩
theorem gj_ex {K : Nat} {px : Nat → F} {M : Nat → Nat → F} (h : F.Sq K px M) : ∃ B A, F.Gj K M K A B := by
  have key : ∀ t, t ≤ K → ∃ B A, F.Gj K M t A B := fun t => by
    induction t with
    | zero => exact fun _ => ⟨_, _, F.gj_start K M⟩
    | succ t ih =>
      intro ht
      obtain ⟨B, A, hg⟩ := ih (by omega)
      exact ⟨_, _, F.gj_turn h hg (by omega)⟩
  exact key K (Nat.le_refl _)
theorem gj_injD {K : Nat} {ix σ : Nat → Nat} {B : Nat → Nat → F} (hpl : Placed K ix σ) (hg : ∃ A, F.Gj K (mF K fun s => ix (σ s)) K A B) : F.Inj K (mF K ix) := by
  obtain ⟨A, hg⟩ := hg
  have z : ∀ r : Nat → F, F.dot K r (fun _ => 0) = 0 := fun r => by
    unfold F.dot
    exact F.sum_zero _ fun i _ => F.mu_zero _
  intro x hx i hi
  have h1 := (hg.same x (fun _ => 0)).2 (fun s hs => hx (σ s) (hpl.lt s hs)) i hi
  rw [z, F.dot_unit hi fun j hj => by rw [hg.left i j hi hj]] at h1
  exact h1
/-- The columns that the first K columns tell; no other bytes can be those of all columns. -/
theorem doc_data {M K L : Nat} {sh : Nat → Shd} (hK : 1 ≤ K) (hK2 : K ≤ 128) (hKM : K ≤ M) (hk : (sh 0).k = K) (hL : L = lenC K (sh 0).sizes.sum) (hx : ∀ i, i < K → (sh i).i < 128) (hne : ∀ i j, i < K → j < K → i ≠ j → (sh i).i ≠ (sh j).i) :
    ∃ xs : Nat → Nat → F, F.Inj K (mF K fun i => (sh i).i) ∧ (∀ m, m < L → ∀ i, i < K → F.dot K (mF K (fun i => (sh i).i) i) (fun j => xs j m) = Fin.ofNat 256 (bAt (sh i).col m)) ∧ ∀ l, FitsC M sh l → (partsB K L fun t m => (xs t m).val).flatten.take (sh 0).sizes.sum = l := by
  obtain ⟨σ, hpl⟩ := placed_ex (ix := fun i => (sh i).i) hne
  obtain ⟨B, hg⟩ := gj_ex (mF_sq hK2 hpl hx)
  refine ⟨fun t m => xF K B (fun i m => bAt (sh i).col m) σ t m, gj_injD hpl hg, fun m _ i hi => mix_val (q := ⟨L, fun i => (sh i).i, fun _ => none, fun _ => 0⟩) hpl hg hi, fun l ⟨h1, h2⟩ => ?_⟩
  rw [← h1]
  refine parts_take (by rw [h1, hL]; exact lenC_ge hK _) fun t m ht hm => ?_
  refine xF_uniq hpl hg (fun i hi => ?_) ht
  have := h2 i (by omega)
  rw [hk, ← hL] at this
  show bAt (sh i).col m = _
  rw [this]
  exact bAt_colB l _ hm

def lsB (L : Nat) (xs : Nat → Nat → F) (j : Nat) : List UInt8 := (List.range L).map fun m => UInt8.ofNat (xs j m).val
theorem lsB_len (L : Nat) (xs : Nat → Nat → F) (j : Nat) : (lsB L xs j).length = L := by simp [lsB]
theorem joinD_parts (L : Nat) (xs : Nat → Nat → F) : ∀ K, joinD (lsB L xs) K = (partsB K L fun t m => (xs t m).val).flatten
  | 0 => rfl
  | K + 1 => by
    have := joinD_parts L xs K
    simp only [joinD, partsB] at this ⊢
    rw [List.range_succ, List.map_append, List.flatten_append, this]
    simp [lsB]
theorem bvL_lsB (L : Nat) (xs : Nat → Nat → F) (j : Nat) : bvL L (xs j) = u8V (lsB L xs j) := by
  unfold bvL u8V lsB
  rw [List.map_map]
  refine List.map_congr_left fun m _ => ?_
  show _ = Value.int .u8 (((UInt8.ofNat (xs j m).val).toNat : Nat) : Int)
  rw [UInt8.toNat_ofNat', Nat.mod_eq_of_lt (xs j m).isLt]
theorem joinD_pcB {sz : List Nat} {l : List UInt8} : ∀ i, i ≤ sz.length → joinD (fun j => pcB sz l j) i = l.take (pre sz i)
  | 0, _ => by simp [joinD, pre]
  | i + 1, h => by
    rw [joinD, joinD_pcB i (by omega), pre_succ (by omega), List.take_add]
    rfl
theorem pcB_take {sz : List Nat} {l : List UInt8} {i : Nat} (hi : i < sz.length) : pcB sz (l.take sz.sum) i = pcB sz l i := by
  have h1 := pre_succ hi
  have h2 := pre_le sz (i + 1)
  unfold pcB
  rw [List.drop_take, List.take_take, Nat.min_eq_left (by omega)]
theorem pre_all (sz : List Nat) : pre sz sz.length = sz.sum := by simp [pre]

theorem oneA_of {s t : Shd} (h : t.k = s.k ∧ t.n = s.n ∧ t.c = s.c ∧ t.names = s.names ∧ t.sizes = s.sizes) : oneA s t = true := by
  obtain ⟨h1, h2, h3, h4, h5⟩ := h
  simp [oneA, h1, h2, h3, h4, h5]
theorem alld_eq {M : Nat} {sh : Nat → Shd} (h : AllD M sh) {i : Nat} (hi : i < M) : (sh i).k = (sh 0).k ∧ (sh i).n = (sh 0).n ∧ (sh i).c = (sh 0).c ∧ (sh i).names = (sh 0).names ∧ (sh i).sizes = (sh 0).sizes := by
  obtain ⟨h1, h2, h3, h4, h5⟩ := oneA_eq (h i hi)
  exact ⟨h1.symm, h2.symm, h3.symm, h4.symm, h5.symm⟩
section
variable {M : Nat} {sh : Nat → Shd} {g : Nat → Nat} (hP : Prm M g)
include hP
theorem all_iff : AllOne M (fun i => sh (g i)) ↔ AllD M sh := by
  constructor
  · intro h i hi
    obtain ⟨a, ha, rfl⟩ := hP.onto i hi
    obtain ⟨b, hb, e⟩ := hP.onto 0 (by omega)
    obtain ⟨a1, a2, a3, a4, a5⟩ := oneA_eq (h a ha)
    obtain ⟨b1, b2, b3, b4, b5⟩ := oneA_eq (h b hb)
    dsimp only at *
    rw [e] at b1 b2 b3 b4 b5
    exact oneA_of ⟨by rw [a1, b1], by rw [a2, b2], by rw [a3, b3], by rw [a4, b4], by rw [a5, b5]⟩
  · intro h i hi
    obtain ⟨a1, a2, a3, a4, a5⟩ := alld_eq h (hP.lt i hi)
    obtain ⟨b1, b2, b3, b4, b5⟩ := alld_eq h (hP.lt 0 (by omega))
    exact oneA_of ⟨by rw [a1, b1], by rw [a2, b2], by rw [a3, b3], by rw [a4, b4], by rw [a5, b5]⟩
theorem dup_iff (hs : ∀ i, i + 1 < M → (sh (g i)).i ≤ (sh (g (i + 1))).i) : Dup M (fun i => sh (g i)) ↔ DupD M sh := by
  have mono : ∀ d a, a + d < M → (sh (g a)).i ≤ (sh (g (a + d))).i := fun d => by
    induction d with
    | zero => exact fun a _ => Nat.le_refl _
    | succ d ih => exact fun a ha => Nat.le_trans (ih a (by omega)) (hs (a + d) (by omega))
  constructor
  · rintro ⟨t, ht, e⟩
    have hne := hP.inj t (t + 1) (by omega) ht (by omega)
    rcases Nat.lt_or_ge (g t) (g (t + 1)) with h | h
    · exact ⟨g (t + 1), g t, h, hP.lt _ ht, e⟩
    · exact ⟨g t, g (t + 1), by omega, hP.lt _ (by omega), e.symm⟩
  · rintro ⟨i, j, hji, hi, e⟩
    obtain ⟨a, ha, rfl⟩ := hP.onto i hi
    obtain ⟨b, hb, rfl⟩ := hP.onto j (by omega)
    have key : ∀ a b, a < b → b < M → (sh (g a)).i = (sh (g b)).i → Dup M (fun i => sh (g i)) := fun a b hab hb e => by
      have h1 := hs a (by omega)
      have h2 := mono (b - (a + 1)) (a + 1) (by omega)
      rw [show a + 1 + (b - (a + 1)) = b by omega] at h2
      exact ⟨a, by omega, by dsimp only; omega⟩
    rcases Nat.lt_or_ge a b with h | h
    · exact key a b h hb e
    · have hne : a ≠ b := fun h => by subst h; omega
      exact key b a (by omega) ha e.symm
theorem tog_same (hs : ∀ i, i + 1 < M → (sh (g i)).i ≤ (sh (g (i + 1))).i) {e e' : Nat} (h : TogE M (fun i => sh (g i)) e) (h' : TogD M sh e') : e = e' := by
  unfold TogE at h
  rw [all_iff hP, dup_iff hP hs] at h
  have hk : AllD M sh → 0 < M → (sh (g 0)).k = (sh 0).k := fun hA h0 => (alld_eq hA (hP.lt 0 h0)).1
  rcases h with ⟨rfl, h1⟩ | ⟨rfl, h1, h2⟩ | ⟨rfl, h1, h2, h3⟩ | ⟨rfl, h1, h2, h3, h4⟩ <;> rcases h' with ⟨rfl, g1⟩ | ⟨rfl, g1, g2⟩ | ⟨rfl, g1, g2, g3⟩ | ⟨rfl, g1, g2, g3, g4⟩
  all_goals first | rfl | exact absurd h1 g1 | exact absurd g1 h1 | exact absurd h2 g2 | exact absurd g2 h2 | skip
  · have := hk h1 g3
    dsimp only at *
    omega
  · have := hk h1 h3
    dsimp only at *
    omega
theorem fits_same (hA : AllD M sh) (h0 : 0 < M) (l : List UInt8) : FitsC M (fun i => sh (g i)) l ↔ FitsC M sh l := by
  obtain ⟨a1, _, _, _, a5⟩ := alld_eq hA (hP.lt 0 h0)
  unfold FitsC Hold'
  dsimp only
  rw [a1, a5]
  refine and_congr_right fun _ => ⟨fun h t ht => ?_, fun h t ht => h _ (hP.lt t ht)⟩
  obtain ⟨a, ha, rfl⟩ := hP.onto t ht
  exact h a ha
end
end Go.Proofs.YtlghjjennhpjeaaGreatDoor

/-
  The document's blobs, sorted and put together again, in plain words.
-/
namespace Go.Proofs.YtlghjjennhpjeaaGreatDoor
open Go.RowKit Go.Deep Go.Hp

open Classical in
noncomputable def dBy (m : Nat) (f : Nat → Ent) (D : Nat → List UInt8) (e : Ent) : List UInt8 := if h : ∃ i, i < m ∧ (f i).k = e.k then D h.choose else []
theorem dBy_at {m : Nat} {f : Nat → Ent} {D : Nat → List UInt8} (hF : NamesFit m f) {i : Nat} (hi : i < m) : dBy m f D (f i) = D i := by
  have h : ∃ j, j < m ∧ (f j).k = (f i).k := ⟨i, hi, rfl⟩
  unfold dBy
  rw [dif_pos h]
  have h1 := h.choose_spec
  congr 1
  rcases Nat.lt_trichotomy h.choose i with q | q | q
  · exact absurd h1.2 (hF.2 _ _ q hi)
  · exact q
  · exact absurd h1.2.symm (hF.2 _ _ q h1.1)
theorem doc_sorted {m : Nat} {ns : List (List UInt8)} {f : Nat → Ent} (hk : ∀ j, j < m → (f j).k = ns.getD j []) (hl : ns.length = m) (hN : NamesOk ns) : NamesFit m f ∧ Srt m f := by
  have e : namesOf m f = ns := by
    refine list_same (by rw [namesOf_length, hl]) fun j hj => ?_
    rw [namesOf_length] at hj
    simp [namesOf, hj, hk j hj, List.getD_eq_getElem?_getD, List.getElem?_eq_getElem (show j < ns.length by omega)]
  rw [← e] at hN
  have hS : Srt m f := fun i hi => by
    have h1 := names_strict hN i hi
    rcases Hp.lt_tri (f i).k (f (i + 1)).k with ⟨_, h2, _⟩ | ⟨_, h2, _⟩ | ⟨_, h2, _⟩
    · exact h2
    · rw [h1] at h2; cases h2
    · rw [h1] at h2; cases h2
  exact ⟨(names_iff (Rearr.refl m f) hS).1 hN, hS⟩
theorem joinD_congr {D D' : Nat → List UInt8} : ∀ n, (∀ i, i < n → D i = D' i) → joinD D n = joinD D' n
  | 0, _ => rfl
  | n + 1, h => by rw [joinD, joinD, joinD_congr n fun i hi => h i (by omega), h n (by omega)]
theorem joinD_len {D : Nat → List UInt8} {L : Nat} : ∀ n, (∀ i, i < n → (D i).length = L) → (joinD D n).length = n * L
  | 0, _ => by simp [joinD]
  | n + 1, h => by rw [joinD, List.length_append, joinD_len n fun i hi => h i (by omega), h n (by omega), Nat.succ_mul]
theorem doc_join {m : Nat} {sz : List Nat} {l : List UInt8} {f f' : Nat → Ent} (hF : NamesFit m f) (hS : Srt m f) (hm : sz.length = m) (hR : Rearr m f f') (hS' : Srt m f') : joinD (fun j => dBy m f (pcB sz l) (f' j)) m = l.take sz.sum := by
  rw [join_same m (sorted_same hF (Rearr.refl m f) hR hS hS'), joinD_congr m fun i hi => dBy_at hF hi, joinD_pcB m (by omega), ← hm, pre_all]
theorem BlR.data {B : Nat} {ns : List (List UInt8)} {sz : List Nat} {l : List UInt8} {m i : Nat} {f : Nat → Ent} {vo : Value} {w : World} (h : BlR B ns sz l m f vo w) (hF : NamesFit m f) (hi : i < m) : DataAt w (f i) (dBy m f (pcB sz l) (f i)) := by
  rw [dBy_at hF hi]
  have ho := (h.dat i hi).2
  have hL := lies_owns ho
  rcases ho.2 with ⟨e1, e2⟩ | ⟨g, c, _, e1, _⟩
  · obtain ⟨x1, x2, x3⟩ := Value.slice.inj e1
    exact ⟨by rw [e2, x2], .inl ⟨x1, x2, x3⟩⟩
  · obtain ⟨x1, x2, _⟩ := Value.slice.inj e1
    refine ⟨x2.symm, .inr ⟨_, x1, fun j u hj => ?_⟩⟩
    rw [e1] at hL
    obtain ⟨b', o', e', hc⟩ := hL.get hj
    cases e'
    rw [Addr.add_mid]
    exact hc
theorem BlR.take {B : Nat} {ns : List (List UInt8)} {sz : List Nat} {l : List UInt8} {m : Nat} {f : Nat → Ent} {vo : Value} {w : World} (h : BlR B ns sz l m f vo w) (hm : sz.length = m) : BlR B ns sz (l.take sz.sum) m f vo w :=
  ⟨h.row, fun j hj => ⟨(h.dat j hj).1, by rw [pcB_take (by omega)]; exact (h.dat j hj).2⟩⟩
theorem BlR.keep {B B' : Nat} {ns : List (List UInt8)} {sz : List Nat} {l : List UInt8} {m : Nat} {f : Nat → Ent} {vo : Value} {w w' : World} (h : BlR B ns sz l m f vo w) (hb : Below B' w w') (hB : w.heap.size ≤ B') : BlR B ns sz l m f vo w' :=
  ⟨owns_below h.row hb hB, fun j hj => ⟨(h.dat j hj).1, owns_below (h.dat j hj).2 hb hB⟩⟩
end Go.Proofs.YtlghjjennhpjeaaGreatDoor

/-
  The document's sameBytes: run alone.
-/
namespace Go.Proofs.YtlghjjennhpjeaaGreatDoor
open Go.RowKit Go.Deep

theorem bAt_all {l m : List UInt8} (h : l.length = m.length) (h2 : ∀ t, t < l.length → bAt l t = bAt m t) : l = m := by
  apply List.ext_getElem h
  intro i h1 h3
  have := h2 i h1
  simp only [bAt, List.getD_eq_getElem?_getD, List.getElem?_eq_getElem h1, List.getElem?_eq_getElem h3, Option.getD_some] at this
  exact UInt8.toNat.inj this
set_option maxHeartbeats 2000000 in
set_option maxRecDepth 100000 in
theorem refSame_any (va vb : Value) (l m : List UInt8) (w : World) (ha : Lies w va (u8V l)) (hb : Lies w vb (u8V m)) (hl : l.length ≤ 1048576) :
    Calls Tryz.prog 17 #[va, vb] w fun r w' => r = .returned (.bool (decide (l = m))) ∧ ∃ q, w' = w.drewN q := by
  obtain ⟨pa, ca, rfl⟩ := ha.len
  obtain ⟨pb, cb, rfl⟩ := hb.len
  rw [u8V_length] at ha hb ⊢
  rw [u8V_length] at ⊢
  go_enter Tryz.func17, Tryz.ntmps17
  rcases h4 : ((l.length : Int) != (m.length : Int)) with _ | _
  rotate_left
  · go_wp2
    go_ret
    exact ⟨by rw [decide_eq_false (fun e => by rw [e] at h4; simp at h4)]; rfl, 0, rfl⟩
  have hlen : l.length = m.length := by
    have : ((l.length : Int) == (m.length : Int)) = true := by simpa [bne] using h4
    have := eq_of_beq this
    omega
  have HL : Hid (l.length = m.length) := hlen
  rw [← hlen] at hb h4 ⊢
  clear hlen h4
  generalize hL : l.length = L at *
  have HE : Hid (l.length = L) := hL
  clear hL
  go_wp2
  go_loopw [5] (fun vi wr => ∃ j : Nat, j ≤ L ∧ vi = .int .i64 (j : Int) ∧ (∃ q, wr = w.drewN q) ∧ ∀ t, t < j → bAt l t = bAt m t) (fun vi _ => L - (intOf vi).toNat)
  case atStart => exact ⟨0, by omega, rfl, ⟨0, rfl⟩, fun t ht => absurd ht (by omega)⟩
  case round =>
    obtain ⟨j, hj, rfl, hw, hsame⟩ := hrel
    have up : ∀ {p : Addr} {u : Value}, w.cell? p = some u → wr.cell? p = some u := fun {p u} h => by obtain ⟨m, rfl⟩ := hw; exact h
    by_cases hlt : j < L
    · have hlt' : (j : Int) < (L : Int) := by omega
      obtain ⟨g1, o1, rfl, c1⟩ := ha.get (u8V_get (l := l) (j := j) (by rw [HE.out]; exact hlt))
      obtain ⟨g2, o2, rfl, c2⟩ := hb.get (u8V_get (l := m) (j := j) (by rw [← HL.out]; exact hlt))
      replace c1 := up c1
      replace c2 := up c2
      by_cases e1 : bAt l j = bAt m j
      · rw [← e1] at c2
        have nx : ∀ t, t < j + 1 → bAt l t = bAt m t := fun t ht => by
          by_cases et : t = j
          · rw [et]; exact e1
          · exact hsame t (by omega)
        clear e1
        go_wp2_with fail
        go_region
        go_wp2
        go_roundw
        case rel => exact ⟨j + 1, by omega, by go_num, drew_on hw, nx⟩
        case measure => simp [intOf]; omega
      · have hne : ((bAt l j : Int) == (bAt m j : Int)) = false := beq_eq_false_iff_ne.2 fun x => e1 (by omega)
        have hd : decide (l = m) = false := decide_eq_false fun e => e1 (by rw [e])
        go_wp2_with fail
        go_region
        go_wp2
        go_ret
        exact ⟨by first | rfl | (rw [hd]; rfl), drew_on hw⟩
    · obtain rfl : j = L := by omega
      have hnl : ¬ ((j : Int) < (j : Int)) := by omega
      have hd : decide (l = m) = true := decide_eq_true (bAt_all (HE.out.trans HL.out) fun t ht => hsame t (by rw [← HE.out]; exact ht))
      go_wp2
      go_ret
      exact ⟨by first | rfl | (rw [hd]; rfl), hw⟩
end Go.Proofs.YtlghjjennhpjeaaGreatDoor

/-
  The document's Rebuilt: columns in memory; the rows are laid up.
-/
namespace Go.Proofs.YtlghjjennhpjeaaGreatDoor
open Go.RowKit Go.Deep

theorem DO.below {w w' : World} {n B : Nat} {q : CL} {bd od : Nat → Nat} {yv : Nat → Nat → Nat} (h : DO w n q bd od yv) (hb : Below B w w') (hB : w.heap.size ≤ B) : DO w' n q bd od yv :=
  ⟨fun i hi => Nat.lt_of_lt_of_le (h.lt i hi) hb.size, h.here, fun i m hi hm => (hb.cell (p := ⟨bd i, _, none⟩) (Nat.lt_of_lt_of_le (h.lt i hi) hB)).trans (h.y i m hi hm), h.yl⟩

def hdN (k i : Nat) (bl cp : Nat → Nat) : List Value := (List.range i).map fun j => .slice (some ⟨bl j, 0, none⟩) k (cp j)
theorem hdN_snoc (k i b c : Nat) (bl cp : Nat → Nat) : hdN k (i + 1) (fun j => if j = i then b else bl j) (fun j => if j = i then c else cp j) = hdN k i bl cp ++ [.slice (some ⟨b, 0, none⟩) k c] := by
  unfold hdN
  rw [List.range_succ, List.map_append]
  congr 1
  · exact List.map_congr_left fun j hj => by
      have : j < i := by simpa using hj
      simp only [if_neg (show ¬ j = i by omega)]
  · simp
/-- So many rows are laid up. -/
structure RB (B k i : Nat) (bl cp : Nat → Nat) (M : Nat → Nat → F) (vm : Value) (w0 w : World) : Prop where
  head : w.ownsRow B 24 1 vm i (hdN k i bl cp)
  rows : ∀ j, j < i → w.ownsRow B 5 1 (.slice (some ⟨bl j, 0, none⟩) k (cp j)) k (bvL k (M j))
  inj : ∀ a b, a < i → b < i → a ≠ b → bl a ≠ bl b
  bel : Below B w0 w
/-- A row more. -/
theorem RB.more {B k i g c : Nat} {bl cp : Nat → Nat} {M : Nat → Nat → F} {vm v' : Value} {w0 w wa wb w1 : World} (h : RB B k i bl cp M vm w0 w) (hB : B ≤ w.heap.size) (ha : Below w.heap.size w wa) (hr : wa.ownsRow w.heap.size 5 1 (.slice (some ⟨g, 0, none⟩) k c) k (bvL k (M i))) (hb : Below wa.heap.size wa wb) (hg : wb.grownBy w1 vm.ownBlock) (ho : w1.ownsRow B 24 1 v' (i + 1) (hdN k i bl cp ++ [.slice (some ⟨g, 0, none⟩) k c])) :
    RB B k (i + 1) (fun j => if j = i then g else bl j) (fun j => if j = i then c else cp j) M v' w0 w1 := by
  have hsa := ha.size
  have hsb := hb.size
  have hgb : (Value.slice (some ⟨g, 0, none⟩) k c).ownBlock = some g := rfl
  have hgl := hr.lt g hgb
  have old : ∀ x, x < w.heap.size → vm.ownBlock ≠ some x → w1.heap[x]? = w.heap[x]? := fun x hx hne => by
    rw [hg.block x (by omega) (fun e => hne e.symm), hb.block x (by omega), ha.block x hx]
  refine ⟨by rw [hdN_snoc]; exact ho, fun j hj => ?_, fun a b ha' hb' hab => ?_, ?_⟩
  · by_cases e : j = i
    · subst e
      simp only [if_true]
      refine (owns_keepR' hr fun x hx => ?_).mono hB
      cases hx
      rw [hg.block g (by omega) (fun e => by have := (h.head.lt g e.symm).2; omega), hb.block g hgl.2]
    · simp only [if_neg e]
      have hj' := h.rows j (by omega)
      refine owns_keepR' hj' fun x hx => old x (hj'.lt x hx).2 fun e => kind_neR hj' h.head (by decide) hx e
  · by_cases e1 : a = i
    · rw [if_pos e1, if_neg (by omega)]
      have := ((h.rows b (by omega)).lt (bl b) rfl).2
      omega
    · rw [if_neg e1]
      by_cases e2 : b = i
      · rw [if_pos e2]
        have := ((h.rows a (by omega)).lt (bl a) rfl).2
        omega
      · rw [if_neg e2]
        exact h.inj a b (by omega) (by omega) hab
  · exact ((h.bel.trans (ha.mono hB)).trans (hb.mono (by omega))).grown hg (by omega) (fun x hx => (h.head.lt x hx).1)
theorem RB.ss {B k g hc : Nat} {bl cp : Nat → Nat} {M : Nat → Nat → F} {w0 w : World} (h : RB B k k bl cp M (.slice (some ⟨g, 0, none⟩) k hc) w0 w) : SS B k g hc bl cp M [] (.slice none 0 0) w w :=
  ⟨h.head, h.rows, h.inj, World.ownsRow_nil _ _ _ _, Below.refl _ _⟩
theorem bvL_row (k x : Nat) : ((List.range k).map fun j => Value.int .u8 ((rowV k x j : Nat) : Int)) = bvL k (fun j => Fin.ofNat 256 (rowV k x j)) := List.map_congr_left fun j _ => by
  rw [show (Fin.ofNat 256 (rowV k x j)).val = rowV k x j from Nat.mod_eq_of_lt rowV_lt]
end Go.Proofs.YtlghjjennhpjeaaGreatDoor

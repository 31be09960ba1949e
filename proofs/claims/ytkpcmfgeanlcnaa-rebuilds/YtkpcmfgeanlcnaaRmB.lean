/-
  The document's elimination: rows and steps in memory.
-/
import Derived.Test.YtkpcmfgeanlcnaaRmA
import Derived.Test.YtkpcmfgeanlcnaaSvE
import Derived.Test.YtkpcmfgeanlcnaaSvC
import Derived.Lib.OwnKind
import Derived.StillTailTactics
import Derived.Laws.OwnMore
namespace Go.Proofs.Ytkpcmfgeanlcnaa
open Go.RowKit Go.Deep

theorem mixed : Try.prog.follows .mixedOrders = true := by kernel_rfl
theorem Try.infoS : (Try.prog.info? 56).map (fun i => (i.zero, i.size, i.bytes)) = some (some (.agg #[.int .i64 0, .int .i64 0, .int .i64 0, .int .u8 0]), 4, 32) := by kernel_rfl

def bvL (k : Nat) (r : Nat → F) : List Value := (List.range k).map fun j => .int .u8 (((r j).val : Nat) : Int)
def hdL (k : Nat) (bl cp : Nat → Nat) : List Value := (List.range k).map fun i => .slice (some ⟨bl i, 0, none⟩) k (cp i)
def stC (s : F.St) : List Value := [.int .i64 ((s.kind : Nat) : Int), .int .i64 ((s.a : Nat) : Int), .int .i64 ((s.b : Nat) : Int), .int .u8 ((s.z.val : Nat) : Int)]
def stL (l : List F.St) : List Value := l.flatMap stC
theorem stL_snoc (l : List F.St) (s : F.St) : stL (l ++ [s]) = stL l ++ stC s := by simp [stL]
theorem stL_length (l : List F.St) : (stL l).length = l.length * 4 := by
  induction l with
  | nil => rfl
  | cons s l ih => simp only [stL, List.flatMap_cons, List.length_append, List.length_cons] at *; simp only [stC, List.length_cons, List.length_nil]; omega
theorem bvL_get {k : Nat} (r : Nat → F) {j : Nat} (h : j < k) : (bvL k r)[j]? = some (.int .u8 (((r j).val : Nat) : Int)) := by simp [bvL, h]
theorem hdL_get {k : Nat} (bl cp : Nat → Nat) {i : Nat} (h : i < k) : (hdL k bl cp)[i]? = some (.slice (some ⟨bl i, 0, none⟩) k (cp i)) := by simp [hdL, h]
theorem bvL_set {k : Nat} (r : Nat → F) (j : Nat) (x : F) : (bvL k r).set j (.int .u8 ((x.val : Nat) : Int)) = bvL k (fun i => if i = j then x else r i) := by
  apply List.ext_getElem?
  intro i
  rw [List.getElem?_set]
  by_cases h : i < k
  · by_cases e : j = i
    · subst e
      simp [bvL, h]
    · rw [if_neg e, bvL_get _ h, bvL_get _ h, if_neg (fun x => e x.symm)]
  · have h1 : ∀ r : Nat → F, (bvL k r)[i]? = none := fun r => by simp [bvL]; omega
    rw [h1, h1]
    by_cases e : j = i
    · subst e
      simp [bvL]
      omega
    · rw [if_neg e]
theorem hdL_set {k : Nat} (bl cp : Nat → Nat) (j b c : Nat) : (hdL k bl cp).set j (.slice (some ⟨b, 0, none⟩) k c) = hdL k (fun i => if i = j then b else bl i) (fun i => if i = j then c else cp i) := by
  apply List.ext_getElem?
  intro i
  rw [List.getElem?_set]
  by_cases h : i < k
  · by_cases e : j = i
    · subst e
      simp [hdL, h]
    · rw [if_neg e, hdL_get _ _ h, hdL_get _ _ h, if_neg (fun x => e x.symm), if_neg (fun x => e x.symm)]
  · have h1 : ∀ b c : Nat → Nat, (hdL k b c)[i]? = none := fun b c => by simp [hdL]; omega
    rw [h1, h1]
    by_cases e : j = i
    · subst e
      simp [hdL]
      omega
    · rw [if_neg e]

/-- The rows and the steps. -/
structure SS (B k g hc : Nat) (bl cp : Nat → Nat) (m : Nat → Nat → F) (l : List F.St) (vl : Value) (w0 w : World) : Prop where
  head : w.ownsRow B 41 1 (.slice (some ⟨g, 0, none⟩) k hc) k (hdL k bl cp)
  rows : ∀ i, i < k → w.ownsRow B 5 1 (.slice (some ⟨bl i, 0, none⟩) k (cp i)) k (bvL k (m i))
  inj : ∀ i j, i < k → j < k → i ≠ j → bl i ≠ bl j
  st : w.ownsRow B 56 4 vl l.length (stL l)
  bel : Below B w0 w

theorem owns_keep' {w w' : World} {B e s n : Nat} {v : Value} {xs : List Value} (h : w.ownsRow B e s v n xs) (hk : ∀ g, v.ownBlock = some g → w'.heap[g]? = w.heap[g]?) : w'.ownsRow B e s v n xs := by
  refine ⟨h.1, ?_⟩
  rcases h.2 with h1 | ⟨g, cap, cur, h1, h2, h3, h4⟩
  · exact .inl h1
  · exact .inr ⟨g, cap, cur, h1, h2, by rw [hk g (by rw [h1]; rfl)]; exact h3, h4⟩
section
variable {B k g hc : Nat} {bl cp : Nat → Nat} {m : Nat → Nat → F} {l : List F.St} {vl : Value} {w0 w : World}
theorem SS.h (h : SS B k g hc bl cp m l vl w0 w) {i : Nat} (hi : i < k) : w.cell? ⟨g, i, none⟩ = some (.slice (some ⟨bl i, 0, none⟩) k (cp i)) := (h.head.cellAt i (by omega)).trans (hdL_get _ _ hi)
theorem SS.r (h : SS B k g hc bl cp m l vl w0 w) {i j : Nat} (hi : i < k) (hj : j < k) : w.cell? ⟨bl i, j, none⟩ = some (.int .u8 (((m i j).val : Nat) : Int)) := ((h.rows i hi).cellAt j (by omega)).trans (bvL_get _ hj)
theorem SS.fr (h : SS B k g hc bl cp m l vl w0 w) {i : Nat} (hi : i < k) (j : Nat) : w.frozen? ⟨bl i, j, none⟩ = false := (h.rows i hi).frozenAt j
theorem SS.fh (h : SS B k g hc bl cp m l vl w0 w) (j : Nat) : w.frozen? ⟨g, j, none⟩ = false := h.head.frozenAt j
theorem SS.same {w' : World} (h : SS B k g hc bl cp m l vl w0 w) (e : w'.heap = w.heap) (e1 : w'.os = w.os) (e2 : w'.tape = w.tape) (e3 : w'.output = w.output) : SS B k g hc bl cp m l vl w0 w' := by
  have key : ∀ {v : Value} {t s n : Nat} {xs : List Value}, w.ownsRow B t s v n xs → w'.ownsRow B t s v n xs := fun hx => owns_keep' hx (fun g _ => by rw [e])
  exact ⟨key h.head, fun i hi => key (h.rows i hi), h.inj, key h.st, ⟨e1.trans h.bel.os, e2.trans h.bel.tape, e3.trans h.bel.output, by rw [e]; exact h.bel.size, fun b hb => by rw [e]; exact h.bel.block b hb⟩⟩
theorem SS.congr {m' : Nat → Nat → F} (h : SS B k g hc bl cp m l vl w0 w) (e : ∀ i j, i < k → j < k → m i j = m' i j) : SS B k g hc bl cp m' l vl w0 w :=
  ⟨h.head, fun i hi => by
    have : bvL k (m' i) = bvL k (m i) := List.map_congr_left fun j hj => by rw [e i j hi (by simpa using hj)]
    rw [this]
    exact h.rows i hi, h.inj, h.st, h.bel⟩
theorem kind_ne {w : World} {B B' t t' s s' n n' : Nat} {v v' : Value} {xs xs' : List Value} (h : w.ownsRow B t s v n xs) (h' : w.ownsRow B' t' s' v' n' xs') (ht : t ≠ t') {b : Nat} (hb : v.ownBlock = some b) : v'.ownBlock ≠ some b := fun hb' => by
  obtain ⟨c1, f1, e1⟩ := Lib.ownsRow_kind h b hb
  obtain ⟨c2, f2, e2⟩ := Lib.ownsRow_kind h' b hb'
  rw [e1] at e2
  cases e2
  exact ht rfl
/-- A step more. -/
theorem SS.push {wa w1 : World} {v' : Value} {s : F.St} (h : SS B k g hc bl cp m l vl w0 w) (ha : Below w.heap.size w wa) (hg : wa.grownBy w1 vl.ownBlock) (ho : w1.ownsRow B 56 4 v' (l.length + 1) (stL l ++ stC s)) (hB : B ≤ w.heap.size) : SS B k g hc bl cp m (l ++ [s]) v' w0 w1 := by
  have key : ∀ {v : Value} {t s n : Nat} {xs : List Value}, t ≠ 56 → w.ownsRow B t s v n xs → w1.ownsRow B t s v n xs := fun ht hx => owns_keep' hx (fun b hb => by
    have hlt := (hx.lt b hb).2
    rw [hg.block b (by have := ha.size; omega) (fun e => kind_ne hx h.st ht hb e.symm)]
    exact ha.block b hlt)
  refine ⟨key (by decide) h.head, fun i hi => key (by decide) (h.rows i hi), h.inj, by rw [stL_snoc, List.length_append]; exact ho, ?_⟩
  exact (h.bel.trans (ha.mono hB)).grown hg (by have := ha.size; omega) (fun b hb => (h.st.lt b hb).1)
/-- A byte is written. -/
theorem SS.set (h : SS B k g hc bl cp m l vl w0 w) {i j : Nat} (hi : i < k) (x : F) : SS B k g hc bl cp (fun i' j' => if i' = i ∧ j' = j then x else m i' j') l vl w0 (w.setCell ⟨bl i, j, none⟩ (.int .u8 ((x.val : Nat) : Int))) := by
  have hb : (Value.slice (some ⟨bl i, 0, none⟩) k (cp i)).ownBlock = some (bl i) := rfl
  have key : ∀ {v : Value} {t s n : Nat} {xs : List Value}, v.ownBlock ≠ some (bl i) → w.ownsRow B t s v n xs → (w.setCell ⟨bl i, j, none⟩ (.int .u8 ((x.val : Nat) : Int))).ownsRow B t s v n xs := fun hne hx => owns_keep' hx (fun b hb' => Below.heap_setCell _ _ _ _ (fun e : b = bl i => hne (e ▸ hb')))
  refine ⟨key (fun e => kind_ne h.head (h.rows i hi) (by decide) rfl (by rw [hb]; exact e ▸ rfl)) h.head, fun i' hi' => ?_, h.inj, key (fun e => kind_ne (h.rows i hi) h.st (by decide) hb e) h.st, h.bel.setCell ((h.rows i hi).lt _ hb).1 _⟩
  by_cases e : i' = i
  · subst e
    have := ((h.rows i' hi).stored j (.int .u8 ((x.val : Nat) : Int))).1
    rw [bvL_set] at this
    have e2 : bvL k (fun j' => if i' = i' ∧ j' = j then x else m i' j') = bvL k (fun j' => if j' = j then x else m i' j') := List.map_congr_left fun j' _ => by simp
    rw [e2]
    exact this
  · have e2 : bvL k (fun j' => if i' = i ∧ j' = j then x else m i' j') = bvL k (m i') := List.map_congr_left fun j' _ => by simp only [if_neg (fun x : i' = i ∧ j' = j => e x.1)]
    rw [e2]
    exact key (fun x => h.inj i' i hi' hi e (Option.some.inj x)) (h.rows i' hi')
def swp (a b : Nat) (f : Nat → Nat) (i : Nat) : Nat := if i = b then f a else if i = a then f b else f i
/-- Two rows change places. -/
theorem SS.swap (h : SS B k g hc bl cp m l vl w0 w) {a b : Nat} (ha : a < k) (hb : b < k) :
    SS B k g hc (swp a b bl) (swp a b cp) (F.apM ⟨0, a, b, 0⟩ m) l vl w0 ((w.setCell ⟨g, a, none⟩ (.slice (some ⟨bl b, 0, none⟩) k (cp b))).setCell ⟨g, b, none⟩ (.slice (some ⟨bl a, 0, none⟩) k (cp a))) := by
  have hg : (Value.slice (some ⟨g, 0, none⟩) k hc).ownBlock = some g := rfl
  have key : ∀ {v : Value} {t s n : Nat} {xs : List Value}, t ≠ 41 → w.ownsRow B t s v n xs → ((w.setCell ⟨g, a, none⟩ (.slice (some ⟨bl b, 0, none⟩) k (cp b))).setCell ⟨g, b, none⟩ (.slice (some ⟨bl a, 0, none⟩) k (cp a))).ownsRow B t s v n xs := fun ht hx => owns_keep' hx (fun x hx' => by
    have hne : x ≠ g := fun e => kind_ne hx h.head ht hx' (by rw [hg, e])
    rw [Below.heap_setCell _ _ _ _ hne, Below.heap_setCell _ _ _ _ hne])
  have h1 := (h.head.stored a (.slice (some ⟨bl b, 0, none⟩) k (cp b))).1
  have h2 := (h1.stored b (.slice (some ⟨bl a, 0, none⟩) k (cp a))).1
  rw [hdL_set, hdL_set] at h2
  have hge := (h.head.lt _ hg).1
  refine ⟨?_, fun i hi => ?_, fun i j hi hj hij => ?_, key (by decide) h.st, (h.bel.setCell hge _).setCell hge _⟩
  · exact h2
  · unfold swp
    have hm : ∀ j, F.apM ⟨0, a, b, 0⟩ m i j = if i = b then m a j else if i = a then m b j else m i j := fun j => by
      unfold F.apM F.ap
      rw [if_pos rfl]
      by_cases e1 : i = a
      · by_cases e2 : i = b
        · subst e1 e2; simp
        · simp [e1]
          intro e3
          rw [e3]
      · by_cases e2 : i = b
        · simp [e2, show b ≠ a from fun e => e1 (e2.trans e)]
        · simp [e1, e2]
    have e2 : bvL k (F.apM ⟨0, a, b, 0⟩ m i) = bvL k (fun j => if i = b then m a j else if i = a then m b j else m i j) := List.map_congr_left fun j _ => by rw [hm]
    rw [e2]
    split
    · exact key (by decide) (h.rows a ha)
    · split
      · exact key (by decide) (h.rows b hb)
      · exact key (by decide) (h.rows i hi)
  · unfold swp
    intro e
    have := h.inj
    by_cases i1 : i = b
    · by_cases j1 : j = b
      · omega
      · rw [if_pos i1, if_neg j1] at e
        by_cases j2 : j = a
        · rw [if_pos j2] at e
          by_cases hab : a = b
          · omega
          · exact this a b ha hb hab e
        · rw [if_neg j2] at e
          exact this a j ha hj (Ne.symm j2) e
    · rw [if_neg i1] at e
      by_cases i2 : i = a
      · rw [if_pos i2] at e
        by_cases j1 : j = b
        · rw [if_pos j1] at e
          by_cases hab : a = b
          · omega
          · exact this b a hb ha (Ne.symm hab) e
        · rw [if_neg j1, if_neg (by omega)] at e
          exact this b j hb hj (Ne.symm j1) e
      · rw [if_neg i2] at e
        by_cases j1 : j = b
        · rw [if_pos j1] at e
          exact this i a hi ha i2 e
        · rw [if_neg j1] at e
          by_cases j2 : j = a
          · rw [if_pos j2] at e
            exact this i b hi hb i1 e
          · rw [if_neg j2] at e
            exact this i j hi hj hij e
end
end Go.Proofs.Ytkpcmfgeanlcnaa

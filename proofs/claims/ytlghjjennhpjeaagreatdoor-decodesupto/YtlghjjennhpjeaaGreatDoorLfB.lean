/-
  A lone run, carried over: an operation that makes no marks and no atomic accesses does the same in a world in which some blocks hold other cells, if in the one world it ends well where those blocks hold none; and it touches none of them.
-/
import GoSem.Machine.Exec
import GoSem.Step
namespace Go.Lf

def NoView : Obj → Prop
  | .view a _ => a.spot.isSome = true
  | .pending .. => False
  | _ => True

/-- A window on other memory, and the same window shut; a variable not yet made, and some thing that is no row of cells. -/
def Ghost (o o' : Obj) : Prop :=
  (∃ a t, o = .view a t ∧ o' = .view ⟨0, 0, some default⟩ t) ∨ (∃ c t, o = .pending c t ∧ o' = .stringIter .empty 0)
theorem Ghost.nv {o o' : Obj} (h : Ghost o o') : NoView o' := by
  rcases h with ⟨a, t, _, rfl⟩ | ⟨c, t, _, rfl⟩
  · rfl
  · trivial

/-- The ends of an operation that are a panic, or an end of the whole run. -/
def HaltOk : Halt → Prop
  | .panic _ => True
  | .stuck _ => True
  | .unsupported (.initOrder _) => False
  | .unsupported _ => True
  | _ => False

/-- It ends by a halt, whatever it finds. -/
def Doomed (P : Program) {α : Type} : Sem α → Prop
  | .pure _ => False
  | .load _ _ k => ∀ v, Doomed P (k v)
  | .store _ _ _ k => Doomed P k
  | .new _ k => ∀ r, Doomed P (k r)
  | .shape _ k => ∀ s, Doomed P (k s)
  | .freeze _ _ k => Doomed P k
  | .frozen _ k => ∀ b, Doomed P (k b)
  | .getObj _ k => ∀ o, Doomed P (k o)
  | .setObj _ _ k => Doomed P k
  | .choose _ k => ∀ n, Doomed P (k n)
  | .sys _ k => ∀ r, Doomed P (k r)
  | .program k => Doomed P (k P)
  | .mark _ k => Doomed P k
  | .halt _ => True

/-- Marks that say nothing to others: no room; a function without a body is run. -/
def OkMark (m : Mark) : Prop := m = .noRoom ∨ ∃ f, m = .extern f
/-- No marks (but 'no room'), no atomic accesses, no calls of the system; what a block's length is is nothing to it, or a length of 0 brings it to a halt. -/
def Plain (P : Program) {α : Type} : Sem α → Prop
  | .pure _ => True
  | .load m _ k => m = .plain ∧ ∀ v, Plain P (k v)
  | .store m _ _ k => m = .plain ∧ Plain P k
  | .new o k => NoView o ∧ ∀ r, Plain P (k r)
  | .shape _ k => (∀ t n, Doomed P (k (some (t, 0))) ∨ k (some (t, n)) = k (some (t, 0))) ∧ ∀ s, Plain P (k s)
  | .freeze _ _ _ => False
  | .frozen _ k => ∀ b, Plain P (k b)
  | .getObj _ k => (∀ o o', Ghost o o' → k o = k o' ∨ Doomed P (k o')) ∧ ∀ o, Plain P (k o)
  | .setObj _ _ _ => False
  | .choose _ k => ∀ n, Plain P (k n)
  | .sys _ _ => False
  | .program k => Plain P (k P)
  | .mark m k => OkMark m ∧ Plain P k
  | .halt h => HaltOk h

section
variable {P : Program} {α β : Type}
theorem Doomed.bind : ∀ (s : Sem α) (f : α → Sem β), Doomed P s → Doomed P (s.bind f)
  | .pure _, _, h => h.elim
  | .load _ _ k, f, h => fun v => Doomed.bind (k v) f (h v)
  | .store _ _ _ k, f, h => Doomed.bind k f h
  | .new _ k, f, h => fun v => Doomed.bind (k v) f (h v)
  | .shape _ k, f, h => fun v => Doomed.bind (k v) f (h v)
  | .freeze _ _ k, f, h => Doomed.bind k f h
  | .frozen _ k, f, h => fun v => Doomed.bind (k v) f (h v)
  | .getObj _ k, f, h => fun v => Doomed.bind (k v) f (h v)
  | .setObj _ _ k, f, h => Doomed.bind k f h
  | .choose _ k, f, h => fun v => Doomed.bind (k v) f (h v)
  | .sys _ k, f, h => fun v => Doomed.bind (k v) f (h v)
  | .program k, f, h => Doomed.bind (k P) f h
  | .mark _ k, f, h => Doomed.bind k f h
  | .halt _, _, _ => trivial
/-- Whatever the first part yields, the second is doomed. -/
theorem Doomed.late : ∀ (s : Sem α) (f : α → Sem β), (∀ a, Doomed P (f a)) → Doomed P (s.bind f)
  | .pure a, _, h => h a
  | .load _ _ k, f, h => fun v => Doomed.late (k v) f h
  | .store _ _ _ k, f, h => Doomed.late k f h
  | .new _ k, f, h => fun v => Doomed.late (k v) f h
  | .shape _ k, f, h => fun v => Doomed.late (k v) f h
  | .freeze _ _ k, f, h => Doomed.late k f h
  | .frozen _ k, f, h => fun v => Doomed.late (k v) f h
  | .getObj _ k, f, h => fun v => Doomed.late (k v) f h
  | .setObj _ _ k, f, h => Doomed.late k f h
  | .choose _ k, f, h => fun v => Doomed.late (k v) f h
  | .sys _ k, f, h => fun v => Doomed.late (k v) f h
  | .program k, f, h => Doomed.late (k P) f h
  | .mark _ k, f, h => Doomed.late k f h
  | .halt _, _, _ => trivial
theorem Plain.bind : ∀ (s : Sem α) (f : α → Sem β), Plain P s → (∀ a, Plain P (f a)) → Plain P (s.bind f)
  | .pure a, _, _, h => h a
  | .load _ _ k, f, h, h' => ⟨h.1, fun v => Plain.bind (k v) f (h.2 v) h'⟩
  | .store _ _ _ k, f, h, h' => ⟨h.1, Plain.bind k f h.2 h'⟩
  | .new _ k, f, h, h' => ⟨h.1, fun v => Plain.bind (k v) f (h.2 v) h'⟩
  | .shape _ k, f, h, h' => ⟨fun t n => (h.1 t n).imp (Doomed.bind _ f) (fun e => congrArg (fun s => Sem.bind s f) e), fun v => Plain.bind (k v) f (h.2 v) h'⟩
  | .freeze _ _ _, _, h, _ => h.elim
  | .frozen _ k, f, h, h' => fun v => Plain.bind (k v) f (h v) h'
  | .getObj _ k, f, h, h' => ⟨fun o o' g => (h.1 o o' g).imp (fun e => congrArg (fun s => Sem.bind s f) e) (Doomed.bind _ f), fun v => Plain.bind (k v) f (h.2 v) h'⟩
  | .setObj _ _ _, _, h, _ => h.elim
  | .choose _ k, f, h, h' => fun v => Plain.bind (k v) f (h v) h'
  | .sys _ _, _, h, _ => h.elim
  | .program k, f, h, h' => Plain.bind (k P) f h h'
  | .mark _ k, f, h, h' => ⟨h.1, Plain.bind k f h.2 h'⟩
  | .halt _, _, h, _ => h
theorem doomed_halts : ∀ (s : Sem α), Doomed P s → ∀ (w : World) (es : Array Event), ∃ h w' es', s.runT P w es = (.halt h w', es')
  | .pure _, h, _, _ => h.elim
  | .load m a k, h, w, es => by
    unfold Sem.runT
    cases w.cell? a with
    | some v => exact doomed_halts (k v) (h v) _ _
    | none =>
      dsimp only
      cases w.farLoad P a (m == .atomic) with
      | ok r => exact doomed_halts (k r.1) (h r.1) _ _
      | error e => exact ⟨_, _, _, rfl⟩
  | .store m a v k, h, w, es => by
    cases v <;> first
      | exact ⟨_, _, _, rfl⟩
      | (unfold Sem.runT
         cases w.cell? a with
         | some u =>
           dsimp only
           split
           · exact ⟨_, _, _, rfl⟩
           · exact doomed_halts k h _ _
         | none =>
           dsimp only
           cases w.farStore P a _ (m == .atomic) with
           | ok r => exact doomed_halts k h _ _
           | error e => exact ⟨_, _, _, rfl⟩)
  | .new o k, h, w, es => doomed_halts (k w.heap.size) (h _) _ es
  | .shape r k, h, w, es => doomed_halts (k (w.shape? r)) (h _) w es
  | .freeze a n k, h, w, es => doomed_halts k h (w.freeze a n) es
  | .frozen a k, h, w, es => doomed_halts (k (w.frozen? a)) (h _) w es
  | .getObj r k, h, w, es => by
    unfold Sem.runT
    split
    · exact ⟨_, _, _, rfl⟩
    · exact doomed_halts (k _) (h _) _ _
    · exact ⟨_, _, _, rfl⟩
  | .setObj r o k, h, w, es => by
    unfold Sem.runT
    split
    · exact ⟨_, _, _, rfl⟩
    · exact doomed_halts k h _ _
    · exact ⟨_, _, _, rfl⟩
  | .choose q k, h, w, es => by
    unfold Sem.runT
    split
    · exact doomed_halts (k 0) (h _) _ _
    · exact doomed_halts (k _) (h _) _ _
  | .sys c k, h, w, es => doomed_halts (k (w.sys c).1) (h _) (w.sys c).2 _
  | .program k, h, w, es => doomed_halts (k P) h w es
  | .mark m k, h, w, es => doomed_halts k h w _
  | .halt x, _, w, es => ⟨x, w, es, rfl⟩
end

/-- The two worlds: blocks of X hold no cells in the second, windows (Y) are shut in it. -/
structure Sim (X : Nat → Prop) (Y : Nat → Option Obj) (w v : World) : Prop where
  size : w.heap.size = v.heap.size
  bound : ∀ b, X b ∨ (Y b).isSome = true → b < v.heap.size
  same : ∀ b, ¬ X b → Y b = none → w.heap[b]? = v.heap[b]?
  gho : ∀ b o, Y b = some o → ∃ o', w.heap[b]? = some o ∧ v.heap[b]? = some o' ∧ Ghost o o'
  doc : ∀ b, X b → ∃ cs t fr, w.heap[b]? = some (.cells cs t fr) ∧ v.heap[b]? = some (.cells #[] t fr)
  nv : ∀ (b : Nat) (o : Obj), v.heap[b]? = some o → NoView o
  os : w.os = v.os
  out : w.output = v.output
  str : ∀ i q, w.tape (w.drawn + i) q = v.tape (v.drawn + i) q
  unf : ∀ b cs t fr, X b → v.heap[b]? = some (.cells cs t fr) → fr = (0, 0)

/-- What it may list. -/
def EvP (X : Nat → Prop) (w : World) (e : Event) : Prop :=
  (∃ a wr, e = ⟨.cell a, wr, false⟩ ∧ a.block < w.heap.size ∧ ¬ X a.block) ∨ (∃ r wr sy, e = ⟨.obj r, wr, sy⟩ ∧ r < w.heap.size ∧ ¬ X r) ∨ ∃ m, OkMark m ∧ e = ⟨.mark m, false, true⟩

section
variable {X : Nat → Prop} {Y : Nat → Option Obj} {w v : World}
theorem EvP.grow {w' : World} {e : Event} (h : EvP X w e) (hs : w.heap.size ≤ w'.heap.size) : EvP X w' e := by
  rcases h with ⟨a, wr, h1, h2, h3⟩ | ⟨r, wr, sy, h1, h2, h3⟩ | h
  · exact .inl ⟨a, wr, h1, by omega, h3⟩
  · exact .inr (.inl ⟨r, wr, sy, h1, by omega, h3⟩)
  · exact .inr (.inr h)
theorem Sim.notX (h : Sim X Y w v) {a : Addr} {u : Value} (hc : v.cell? a = some u) : ¬ X a.block ∧ Y a.block = none ∧ a.block < v.heap.size := by
  unfold World.cell? at hc
  refine ⟨fun hx => ?_, ?_, ?_⟩
  · obtain ⟨cs, t, fr, _, h2⟩ := h.doc _ hx
    rw [h2] at hc
    dsimp only at hc
    split at hc <;> simp at hc
  · cases hy : Y a.block with
    | none => rfl
    | some o =>
      obtain ⟨o', _, h2, hg⟩ := h.gho _ _ hy
      rw [h2] at hc
      rcases hg with ⟨b, t, _, rfl⟩ | ⟨c, t, _, rfl⟩ <;> cases hc
  · cases hb : v.heap[a.block]? with
    | none => rw [hb] at hc; simp at hc
    | some o => exact (Array.getElem?_eq_some_iff.1 hb).1
theorem Sim.cell (h : Sim X Y w v) {a : Addr} (hx : ¬ X a.block) (hy : Y a.block = none) : w.cell? a = v.cell? a := by
  unfold World.cell?
  rw [h.same _ hx hy]
theorem Sim.frozen (h : Sim X Y w v) (a : Addr) : w.frozen? a = v.frozen? a := by
  unfold World.frozen?
  by_cases hx : X a.block
  · obtain ⟨cs, t, fr, h1, h2⟩ := h.doc _ hx
    rw [h1, h2]
  · cases hy : Y a.block with
    | some o =>
      obtain ⟨o', h1, h2, hg⟩ := h.gho _ _ hy
      rw [h1, h2]
      rcases hg with ⟨b, t, rfl, rfl⟩ | ⟨c, t, rfl, rfl⟩ <;> rfl
    | none => rw [h.same _ hx hy]
theorem seen_shut {P : Program} {v : World} {b : Addr} (hb : b.spot.isSome = true) (t : TypeId) (a : Addr) (m : Bool) : ∃ e, v.seen P b t a m = .error e := by
  unfold World.seen
  rw [hb, Bool.or_true]
  exact ⟨_, rfl⟩
theorem viewLoad_shut {P : Program} {v : World} {b : Addr} (hb : b.spot.isSome = true) (t : TypeId) (a : Addr) (m : Bool) : ∃ e, v.viewLoad P b t a m = .error e := by
  obtain ⟨e, he⟩ := seen_shut (P := P) (v := v) hb t a m
  unfold World.viewLoad
  rw [he]
  exact ⟨_, rfl⟩
theorem viewStore_shut {P : Program} {v : World} {b : Addr} (hb : b.spot.isSome = true) (t : TypeId) (a : Addr) (u : Value) (m : Bool) : ∃ e, v.viewStore P b t a u m = .error e := by
  obtain ⟨e, he⟩ := seen_shut (P := P) (v := v) hb t a m
  unfold World.viewStore
  cases tight P P.depth t with
  | false => exact ⟨_, rfl⟩
  | true =>
    rw [he]
    exact ⟨_, rfl⟩
theorem farLoad_none {P : Program} (hn : ∀ (b : Nat) (o : Obj), v.heap[b]? = some o → NoView o) (a : Addr) (m : Bool) : ∃ e, v.farLoad P a m = .error e := by
  unfold World.farLoad
  split
  · rename_i h
    obtain ⟨e, he⟩ := viewLoad_shut (P := P) (v := v) (hn _ _ h) _ a m
    rw [he]
    exact ⟨_, rfl⟩
  · exact ⟨_, rfl⟩
theorem farStore_none {P : Program} (hn : ∀ (b : Nat) (o : Obj), v.heap[b]? = some o → NoView o) (a : Addr) (u : Value) (m : Bool) : ∃ e, v.farStore P a u m = .error e := by
  unfold World.farStore
  split
  · rename_i h
    obtain ⟨e, he⟩ := viewStore_shut (P := P) (v := v) (hn _ _ h) _ a u m
    rw [he]
    exact ⟨_, rfl⟩
  · exact ⟨_, rfl⟩
/-- A turn of one block that both worlds hold alike. -/
theorem Sim.modify (h : Sim X Y w v) (b : Nat) (f : Obj → Obj) (hf : ∀ o, NoView o → NoView (f o)) (hg : ∀ o o', Ghost o o' → f o = o ∧ f o' = o') (hc : ¬ X b) :
    Sim X Y { w with heap := w.heap.modify b f } { v with heap := v.heap.modify b f } := by
  refine ⟨by simp [h.size], fun x hx => by simpa using h.bound x hx, fun x hx hy => ?_, fun x o hy => ?_, fun x hx => ?_, fun x o hx => ?_, h.os, h.out, h.str, fun x cs t fr hx hb => ?_⟩
  · simp only [Array.getElem?_modify, h.same x hx hy]
  · obtain ⟨o', h1, h2, h3⟩ := h.gho x o hy
    refine ⟨o', ?_, ?_, h3⟩
    · simp only [Array.getElem?_modify, h1]
      split <;> simp [(hg o o' h3).1]
    · simp only [Array.getElem?_modify, h2]
      split <;> simp [(hg o o' h3).2]
  · obtain ⟨cs, t, fr, h1, h2⟩ := h.doc x hx
    simp only [Array.getElem?_modify, h1, h2]
    by_cases hb : b = x
    · subst hb
      exact absurd hx hc
    · simp only [if_neg hb]
      exact ⟨cs, t, fr, rfl, rfl⟩
  · simp only [Array.getElem?_modify] at hx
    by_cases hb : b = x
    · subst hb
      simp only [if_true, Option.map_eq_some_iff] at hx
      obtain ⟨o', h1, rfl⟩ := hx
      exact hf o' (h.nv _ _ h1)
    · rw [if_neg hb] at hx
      exact h.nv _ _ hx
  · simp only [Array.getElem?_modify] at hb
    by_cases hbx : b = x
    · subst hbx
      exact absurd hx hc
    · rw [if_neg hbx] at hb
      exact h.unf x cs t fr hx hb
theorem Sim.setCell (h : Sim X Y w v) {a : Addr} (hx : ¬ X a.block) (u : Value) : Sim X Y (w.setCell a u) (v.setCell a u) :=
  h.modify a.block _ (fun o ho => by cases o <;> first | exact ho | trivial) (fun o o' hg => by rcases hg with ⟨b, t, rfl, rfl⟩ | ⟨c, t, rfl, rfl⟩ <;> exact ⟨rfl, rfl⟩) hx
theorem Sim.push (h : Sim X Y w v) {o : Obj} (ho : NoView o) : Sim X Y { w with heap := w.heap.push o } { v with heap := v.heap.push o } := by
  refine ⟨by simp [h.size], fun b hb => by have := h.bound b hb; simp; omega, fun b hb hy => ?_, fun b o hy => ?_, fun b hb => ?_, fun b o' hb => ?_, h.os, h.out, h.str, fun b cs t fr hx hb => ?_⟩
  · simp only [Array.getElem?_push, h.size, h.same b hb hy]
  · rename_i oo
    obtain ⟨o2, h1, h2, h3⟩ := h.gho b _ hy
    have hlt := h.bound b (.inr (by rw [hy]; rfl))
    refine ⟨o2, ?_, ?_, h3⟩
    · rw [Array.getElem?_push, if_neg (by rw [h.size]; omega)]; exact h1
    · rw [Array.getElem?_push, if_neg (by omega)]; exact h2
  · obtain ⟨cs, t, fr, h1, h2⟩ := h.doc b hb
    have hlt := h.bound b (.inl hb)
    refine ⟨cs, t, fr, ?_, ?_⟩
    · rw [Array.getElem?_push, if_neg (by rw [h.size]; omega)]; exact h1
    · rw [Array.getElem?_push, if_neg (by omega)]; exact h2
  · simp only [Array.getElem?_push] at hb
    split at hb
    · cases hb; exact ho
    · exact h.nv b o' hb
  · have hlt := h.bound b (.inl hx)
    simp only [Array.getElem?_push] at hb
    rw [if_neg (by omega)] at hb
    exact h.unf b cs t fr hx hb
theorem Sim.draw (h : Sim X Y w v) : Sim X Y { w with drawn := w.drawn + 1 } { v with drawn := v.drawn + 1 } :=
  ⟨h.size, h.bound, h.same, h.gho, h.doc, h.nv, h.os, h.out, fun i q => by have := h.str (i + 1) q; simpa [Nat.add_assoc, Nat.add_comm 1 i] using this, h.unf⟩
end

/-- ████ The same in both worlds. -/
theorem sim_run {P : Program} {X : Nat → Prop} {Y : Nat → Option Obj} {α : Type} : ∀ (s : Sem α) (w v : World) (es : Array Event) (x : α) (v' : World) (es' : Array Event), Plain P s → Sim X Y w v → s.runT P v es = (.ok x v', es') →
    ∃ w', s.runT P w es = (.ok x w', es') ∧ Sim X Y w' v' ∧ v.heap.size ≤ v'.heap.size ∧ ∀ e ∈ es', e ∈ es ∨ EvP X w' e
  | .pure a, w, v, es, x, v', es', _, h, hr => by
    simp only [Sem.runT, Prod.mk.injEq, Result.ok.injEq] at hr
    obtain ⟨⟨rfl, rfl⟩, rfl⟩ := hr
    exact ⟨w, rfl, h, Nat.le_refl _, fun e he => .inl he⟩
  | .load m a k, w, v, es, x, v', es', hp, h, hr => by
    obtain ⟨rfl, hp⟩ := hp
    cases hc : v.cell? a with
    | none =>
      obtain ⟨e, he⟩ := farLoad_none (P := P) h.nv a (Mode.plain == Mode.atomic)
      simp only [Sem.runT, hc, he] at hr
      cases hr
    | some u =>
      obtain ⟨hx, hy, hlt⟩ := h.notX hc
      simp only [Sem.runT, hc] at hr
      obtain ⟨w', h1, h2, h3, h4⟩ := sim_run (k u) w v _ x v' es' (hp u) h hr
      refine ⟨w', by simp only [Sem.runT, h.cell hx hy, hc]; exact h1, h2, h3, fun e he => ?_⟩
      rcases h4 e he with h5 | h5
      · rcases Array.mem_push.1 h5 with h6 | rfl
        · exact .inl h6
        · exact .inr (.inl ⟨a, false, rfl, by rw [h2.size]; omega, hx⟩)
      · exact .inr h5
  | .store m a u k, w, v, es, x, v', es', hp, h, hr => by
    obtain ⟨rfl, hp⟩ := hp
    have key : (∀ (w : World), (Sem.store Mode.plain a u k).runT P w es = match w.cell? a with
        | some _ => if w.frozen? a then (.halt (.unsupported (.unsafePointer "a write to bytes that a string shares")) w, es) else k.runT P (w.setCell a u) (es.push ⟨.cell a, true, Mode.plain == Mode.atomic⟩)
        | none => match w.farStore P a u (Mode.plain == Mode.atomic) with
          | .ok (w, touched) => k.runT P w (es ++ touched.toArray.map (⟨.cell ·, true, Mode.plain == Mode.atomic⟩))
          | .error h => (.halt h w, es)) ∨ (∀ (w : World), (Sem.store Mode.plain a u k).runT P w es = (.halt (.stuck "store: not the value of one cell") w, es)) := by
      cases u <;> first | exact .inr fun _ => rfl | exact .inl fun _ => rfl
    rcases key with key | key
    · rw [key] at hr
      cases hc : v.cell? a with
      | none =>
        obtain ⟨e, he⟩ := farStore_none (P := P) h.nv a u (Mode.plain == Mode.atomic)
        simp only [hc, he] at hr
        cases hr
      | some u' =>
        obtain ⟨hx, hy, hlt⟩ := h.notX hc
        simp only [hc] at hr
        cases hz : v.frozen? a with
        | true => rw [hz] at hr; simp at hr
        | false =>
          rw [hz] at hr
          simp only [Bool.false_eq_true, if_false] at hr
          obtain ⟨w', h1, h2, h3, h4⟩ := sim_run k (w.setCell a u) (v.setCell a u) _ x v' es' hp (h.setCell hx u) hr
          refine ⟨w', by rw [key]; simp only [h.cell hx hy, hc, h.frozen, hz, Bool.false_eq_true, if_false]; exact h1, h2, by simpa [World.setCell] using h3, fun e he => ?_⟩
          rcases h4 e he with h5 | h5
          · rcases Array.mem_push.1 h5 with h6 | rfl
            · exact .inl h6
            · refine .inr (.inl ⟨a, true, rfl, ?_, hx⟩)
              have : v.heap.size ≤ v'.heap.size := by simpa [World.setCell] using h3
              rw [h2.size]; omega
          · exact .inr h5
    · rw [key] at hr
      cases hr
  | .new o k, w, v, es, x, v', es', hp, h, hr => by
    simp only [Sem.runT] at hr
    obtain ⟨w', h1, h2, h3, h4⟩ := sim_run (k v.heap.size) _ _ es x v' es' (hp.2 _) (h.push hp.1) hr
    refine ⟨w', by simp only [Sem.runT, h.size]; exact h1, h2, ?_, h4⟩
    simp at h3
    omega
  | .shape r k, w, v, es, x, v', es', hp, h, hr => by
    simp only [Sem.runT] at hr
    by_cases hx : X r
    · obtain ⟨cs, t, fr, e1, e2⟩ := h.doc r hx
      have s2 : v.shape? r = some (t, 0) := by simp [World.shape?, e2]
      have s1 : w.shape? r = some (t, cs.size) := by simp [World.shape?, e1]
      rw [s2] at hr
      rcases hp.1 t cs.size with hd | he
      · obtain ⟨y, w', es'', hh⟩ := doomed_halts (k (some (t, 0))) hd v es
        rw [hh] at hr
        cases hr
      · obtain ⟨w', h1, h2, h3, h4⟩ := sim_run (k (some (t, 0))) w v es x v' es' (hp.2 _) h hr
        exact ⟨w', by simp only [Sem.runT, s1, he]; exact h1, h2, h3, h4⟩
    · have e : w.shape? r = v.shape? r := by
        cases hy : Y r with
        | some o =>
          obtain ⟨o', h1, h2, hg⟩ := h.gho _ _ hy
          simp only [World.shape?, h1, h2]
          rcases hg with ⟨b, t, rfl, rfl⟩ | ⟨c, t, rfl, rfl⟩ <;> rfl
        | none => simp only [World.shape?, h.same r hx hy]
      obtain ⟨w', h1, h2, h3, h4⟩ := sim_run (k (v.shape? r)) w v es x v' es' (hp.2 _) h hr
      exact ⟨w', by simp only [Sem.runT, e]; exact h1, h2, h3, h4⟩
  | .freeze a n k, _, _, _, _, _, _, hp, _, _ => hp.elim
  | .frozen a k, w, v, es, x, v', es', hp, h, hr => by
    simp only [Sem.runT] at hr
    obtain ⟨w', h1, h2, h3, h4⟩ := sim_run (k (v.frozen? a)) w v es x v' es' (hp _) h hr
    exact ⟨w', by simp only [Sem.runT, h.frozen]; exact h1, h2, h3, h4⟩
  | .getObj r k, w, v, es, x, v', es', hp, h, hr => by
    by_cases hx : X r
    · obtain ⟨cs, t, fr, _, e2⟩ := h.doc r hx
      simp only [Sem.runT, e2] at hr
      cases hr
    · rcases hy : Y r with _ | o
      case some =>
        obtain ⟨o', h1, h2, hg⟩ := h.gho r o hy
        have hlt := (Array.getElem?_eq_some_iff.1 h2).1
        have ev : ∀ (u : World) (q : Obj), u.heap[r]? = some q → (∀ c t fr, q ≠ .cells c t fr) → (Sem.getObj r k).runT P u es = (k q).runT P u (es.push ⟨.obj r, false, q.isChan⟩) := fun u q hu hq => by
          cases q <;> first | exact absurd rfl (hq _ _ _) | simp only [Sem.runT, hu]
        have n1 : ∀ c t fr, o ≠ .cells c t fr := by rcases hg with ⟨b, t, rfl, rfl⟩ | ⟨c, t, rfl, rfl⟩ <;> (intro _ _ _ hh; cases hh)
        have n2 : ∀ c t fr, o' ≠ .cells c t fr := by rcases hg with ⟨b, t, rfl, rfl⟩ | ⟨c, t, rfl, rfl⟩ <;> (intro _ _ _ hh; cases hh)
        rw [ev v o' h2 n2] at hr
        rcases hp.1 o o' hg with he | hd
        · have hi : o.isChan = o'.isChan := by rcases hg with ⟨b, t, rfl, rfl⟩ | ⟨c, t, rfl, rfl⟩ <;> rfl
          obtain ⟨w', h3, h4, h5, h6⟩ := sim_run (k o') w v _ x v' es' (hp.2 _) h hr
          refine ⟨w', by rw [ev w o h1 n1, he, hi]; exact h3, h4, h5, fun e he => ?_⟩
          rcases h6 e he with h7 | h7
          · rcases Array.mem_push.1 h7 with h8 | rfl
            · exact .inl h8
            · exact .inr (.inr (.inl ⟨r, _, _, rfl, by rw [h4.size]; omega, hx⟩))
          · exact .inr h7
        · obtain ⟨y, w', es'', hh⟩ := doomed_halts (k o') hd v (es.push ⟨.obj r, false, o'.isChan⟩)
          rw [hh] at hr
          cases hr
      have e := h.same r hx hy
      cases ho : v.heap[r]? with
      | none => simp only [Sem.runT, ho] at hr; cases hr
      | some o =>
        have hlt := (Array.getElem?_eq_some_iff.1 ho).1
        cases o with
        | cells c t fr => simp only [Sem.runT, ho] at hr; cases hr
        | _ =>
          simp only [Sem.runT, ho] at hr
          obtain ⟨w', h1, h2, h3, h4⟩ := sim_run (k _) w v _ x v' es' (hp.2 _) h hr
          refine ⟨w', by simp only [Sem.runT, e, ho]; exact h1, h2, h3, fun e he => ?_⟩
          rcases h4 e he with h5 | h5
          · rcases Array.mem_push.1 h5 with h6 | rfl
            · exact .inl h6
            · exact .inr (.inr (.inl ⟨r, _, _, rfl, by rw [h2.size]; omega, hx⟩))
          · exact .inr h5
  | .setObj r o k, _, _, _, _, _, _, hp, _, _ => hp.elim
  | .choose q k, w, v, es, x, v', es', hp, h, hr => by
    have e : w.tape w.drawn q = v.tape v.drawn q := by simpa using h.str 0 q
    cases hq : q.forced with
    | true =>
      simp only [Sem.runT, hq, if_true] at hr
      obtain ⟨w', h1, h2, h3, h4⟩ := sim_run (k 0) w v es x v' es' (hp _) h hr
      exact ⟨w', by simp only [Sem.runT, hq, if_true]; exact h1, h2, h3, h4⟩
    | false =>
      simp only [Sem.runT, hq, Bool.false_eq_true, if_false] at hr
      obtain ⟨w', h1, h2, h3, h4⟩ := sim_run (k _) _ _ es x v' es' (hp _) h.draw hr
      exact ⟨w', by simp only [Sem.runT, hq, Bool.false_eq_true, if_false, e]; exact h1, h2, h3, h4⟩
  | .sys c k, _, _, _, _, _, _, hp, _, _ => hp.elim
  | .program k, w, v, es, x, v', es', hp, h, hr => by
    simp only [Sem.runT] at hr
    obtain ⟨w', h1, h2, h3, h4⟩ := sim_run (k P) w v es x v' es' hp h hr
    exact ⟨w', h1, h2, h3, h4⟩
  | .mark m k, w, v, es, x, v', es', hp, h, hr => by
    obtain ⟨hm, hp⟩ := hp
    simp only [Sem.runT] at hr
    obtain ⟨w', h1, h2, h3, h4⟩ := sim_run k w v _ x v' es' hp h hr
    refine ⟨w', h1, h2, h3, fun e he => ?_⟩
    rcases h4 e he with h5 | h5
    · rcases Array.mem_push.1 h5 with h6 | rfl
      · exact .inl h6
      · exact .inr (.inr (.inr ⟨m, hm, rfl⟩))
    · exact .inr h5
  | .halt _, _, _, _, _, _, _, _, _, hr => by simp only [Sem.runT] at hr; cases hr

theorem Sim.self {v : World} (hn : ∀ (b : Nat) (o : Obj), v.heap[b]? = some o → NoView o) : Sim (fun _ => False) (fun _ => none) v v := ⟨rfl, fun _ h => h.elim (fun h => h.elim) (fun h => by cases h), fun _ _ _ => rfl, fun _ _ h => (by cases h), fun _ h => h.elim, hn, rfl, rfl, fun _ _ => rfl, fun _ _ _ _ h => h.elim⟩

/-- The tape is read only as far as it is drawn from. -/
theorem tape_run {P : Program} {α : Type} : ∀ (s : Sem α) (v : World) (es : Array Event) (x : α) (v' : World) (es' : Array Event), Plain P s → (∀ (b : Nat) (o : Obj), v.heap[b]? = some o → NoView o) → s.runT P v es = (.ok x v', es') →
    v'.tape = v.tape ∧ v.drawn ≤ v'.drawn ∧ ∀ τ : Nat → Question → Nat, (∀ p, v.drawn ≤ p → p < v'.drawn → τ p = v.tape p) → s.runT P { v with tape := τ } es = (.ok x { v' with tape := τ }, es')
  | .pure a, v, es, x, v', es', _, _, hr => by
    simp only [Sem.runT, Prod.mk.injEq, Result.ok.injEq] at hr
    obtain ⟨⟨rfl, rfl⟩, rfl⟩ := hr
    exact ⟨rfl, Nat.le_refl _, fun _ _ => rfl⟩
  | .load m a k, v, es, x, v', es', hp, hn, hr => by
    obtain ⟨rfl, hp⟩ := hp
    cases hc : v.cell? a with
    | none =>
      obtain ⟨e, he⟩ := farLoad_none (P := P) hn a (Mode.plain == Mode.atomic)
      simp only [Sem.runT, hc, he] at hr
      cases hr
    | some u =>
      simp only [Sem.runT, hc] at hr
      obtain ⟨h1, h2, h3⟩ := tape_run (k u) v _ x v' es' (hp u) hn hr
      refine ⟨h1, h2, fun τ hτ => ?_⟩
      have : ({ v with tape := τ } : World).cell? a = some u := hc
      simp only [Sem.runT, this]
      exact h3 τ hτ
  | .store m a u k, v, es, x, v', es', hp, hn, hr => by
    obtain ⟨rfl, hp⟩ := hp
    have key : (∀ (w : World), (Sem.store Mode.plain a u k).runT P w es = match w.cell? a with
        | some _ => if w.frozen? a then (.halt (.unsupported (.unsafePointer "a write to bytes that a string shares")) w, es) else k.runT P (w.setCell a u) (es.push ⟨.cell a, true, Mode.plain == Mode.atomic⟩)
        | none => match w.farStore P a u (Mode.plain == Mode.atomic) with
          | .ok (w, touched) => k.runT P w (es ++ touched.toArray.map (⟨.cell ·, true, Mode.plain == Mode.atomic⟩))
          | .error h => (.halt h w, es)) ∨ (∀ (w : World), (Sem.store Mode.plain a u k).runT P w es = (.halt (.stuck "store: not the value of one cell") w, es)) := by
      cases u <;> first | exact .inr fun _ => rfl | exact .inl fun _ => rfl
    rcases key with key | key
    · rw [key] at hr
      cases hc : v.cell? a with
      | none =>
        obtain ⟨e, he⟩ := farStore_none (P := P) hn a u (Mode.plain == Mode.atomic)
        simp only [hc, he] at hr
        cases hr
      | some u' =>
        simp only [hc] at hr
        cases hz : v.frozen? a with
        | true => rw [hz] at hr; simp at hr
        | false =>
          rw [hz] at hr
          simp only [Bool.false_eq_true, if_false] at hr
          obtain ⟨h1, h2, h3⟩ := tape_run k (v.setCell a u) _ x v' es' hp ((Sim.self hn).setCell (fun h => h) u).nv hr
          refine ⟨h1, h2, fun τ hτ => ?_⟩
          have e1 : ({ v with tape := τ } : World).cell? a = some u' := hc
          have e2 : ({ v with tape := τ } : World).frozen? a = false := hz
          rw [key]
          simp only [e1, e2, Bool.false_eq_true, if_false]
          exact h3 τ hτ
    · rw [key] at hr
      cases hr
  | .new o k, v, es, x, v', es', hp, hn, hr => by
    simp only [Sem.runT] at hr
    obtain ⟨h1, h2, h3⟩ := tape_run (k v.heap.size) _ es x v' es' (hp.2 _) ((Sim.self hn).push hp.1).nv hr
    exact ⟨h1, h2, fun τ hτ => h3 τ hτ⟩
  | .shape r k, v, es, x, v', es', hp, hn, hr => by
    simp only [Sem.runT] at hr
    exact tape_run (k (v.shape? r)) v es x v' es' (hp.2 _) hn hr
  | .freeze a n k, _, _, _, _, _, hp, _, _ => hp.elim
  | .frozen a k, v, es, x, v', es', hp, hn, hr => by
    simp only [Sem.runT] at hr
    exact tape_run (k (v.frozen? a)) v es x v' es' (hp _) hn hr
  | .getObj r k, v, es, x, v', es', hp, hn, hr => by
    cases ho : v.heap[r]? with
    | none => simp only [Sem.runT, ho] at hr; cases hr
    | some o =>
      cases o with
      | cells c t fr => simp only [Sem.runT, ho] at hr; cases hr
      | _ =>
        simp only [Sem.runT, ho] at hr
        obtain ⟨h1, h2, h3⟩ := tape_run (k _) v _ x v' es' (hp.2 _) hn hr
        refine ⟨h1, h2, fun τ hτ => ?_⟩
        simp only [Sem.runT, ho]
        exact h3 τ hτ
  | .setObj r o k, _, _, _, _, _, hp, _, _ => hp.elim
  | .choose q k, v, es, x, v', es', hp, hn, hr => by
    cases hq : q.forced with
    | true =>
      simp only [Sem.runT, hq, if_true] at hr
      obtain ⟨h1, h2, h3⟩ := tape_run (k 0) v es x v' es' (hp _) hn hr
      refine ⟨h1, h2, fun τ hτ => ?_⟩
      simp only [Sem.runT, hq, if_true]
      exact h3 τ hτ
    | false =>
      simp only [Sem.runT, hq, Bool.false_eq_true, if_false] at hr
      obtain ⟨h1, h2, h3⟩ := tape_run (k _) { v with drawn := v.drawn + 1 } es x v' es' (hp _) hn hr
      dsimp only at h1 h2 h3
      refine ⟨h1, by omega, fun τ hτ => ?_⟩
      simp only [Sem.runT, hq, Bool.false_eq_true, if_false]
      rw [hτ v.drawn (Nat.le_refl _) (by omega)]
      exact h3 τ fun p hp1 hp2 => hτ p (by omega) hp2
  | .sys c k, _, _, _, _, _, hp, _, _ => hp.elim
  | .program k, v, es, x, v', es', hp, hn, hr => by
    simp only [Sem.runT] at hr
    exact tape_run (k P) v es x v' es' hp hn hr
  | .mark m k, v, es, x, v', es', hp, hn, hr => by
    simp only [Sem.runT] at hr
    exact tape_run k v _ x v' es' hp.2 hn hr
  | .halt _, _, _, _, _, _, _, _, hr => by simp only [Sem.runT] at hr; cases hr

theorem noCell_ok {v : World} (hn : ∀ (b : Nat) (o : Obj), v.heap[b]? = some o → NoView o) (a : Addr) (s : String) : HaltOk (v.noCell a s) := by
  unfold World.noCell
  split
  · rename_i h; exact (hn _ _ h).elim
  · trivial
  · trivial
theorem farLoad_err {P : Program} {v : World} (hn : ∀ (b : Nat) (o : Obj), v.heap[b]? = some o → NoView o) (a : Addr) (m : Bool) : ∃ e, v.farLoad P a m = .error e ∧ HaltOk e := by
  unfold World.farLoad
  split
  · rename_i h
    obtain ⟨e, he⟩ := viewLoad_shut (P := P) (v := v) (hn _ _ h) _ a m
    rw [he]
    exact ⟨_, rfl, trivial⟩
  · exact ⟨_, rfl, noCell_ok hn _ _⟩
theorem farStore_err {P : Program} {v : World} (hn : ∀ (b : Nat) (o : Obj), v.heap[b]? = some o → NoView o) (a : Addr) (u : Value) (m : Bool) : ∃ e, v.farStore P a u m = .error e ∧ HaltOk e := by
  unfold World.farStore
  split
  · rename_i h
    obtain ⟨e, he⟩ := viewStore_shut (P := P) (v := v) (hn _ _ h) _ a u m
    rw [he]
    exact ⟨_, rfl, trivial⟩
  · exact ⟨_, rfl, noCell_ok hn _ _⟩

/-- How a plain operation can end otherwise. -/
theorem plain_halts {P : Program} {X : Nat → Prop} {Y : Nat → Option Obj} {α : Type} : ∀ (s : Sem α) (w v : World) (es : Array Event) (x : Halt) (v' : World) (es' : Array Event), Plain P s → Sim X Y w v → s.runT P v es = (.halt x v', es') → HaltOk x
  | .pure a, w, v, es, x, v', es', _, h, hr => by simp only [Sem.runT] at hr; cases hr
  | .load m a k, w, v, es, x, v', es', hp, h, hr => by
    obtain ⟨rfl, hp⟩ := hp
    cases hc : v.cell? a with
    | none =>
      obtain ⟨e, he, hok⟩ := farLoad_err (P := P) h.nv a (Mode.plain == Mode.atomic)
      simp only [Sem.runT, hc, he] at hr
      cases hr
      exact hok
    | some u =>
      simp only [Sem.runT, hc] at hr
      exact plain_halts (k u) w v _ x v' es' (hp u) h hr
  | .store m a u k, w, v, es, x, v', es', hp, h, hr => by
    obtain ⟨rfl, hp⟩ := hp
    have key : (∀ (w : World), (Sem.store Mode.plain a u k).runT P w es = match w.cell? a with
        | some _ => if w.frozen? a then (.halt (.unsupported (.unsafePointer "a write to bytes that a string shares")) w, es) else k.runT P (w.setCell a u) (es.push ⟨.cell a, true, Mode.plain == Mode.atomic⟩)
        | none => match w.farStore P a u (Mode.plain == Mode.atomic) with
          | .ok (w, touched) => k.runT P w (es ++ touched.toArray.map (⟨.cell ·, true, Mode.plain == Mode.atomic⟩))
          | .error h => (.halt h w, es)) ∨ (∀ (w : World), (Sem.store Mode.plain a u k).runT P w es = (.halt (.stuck "store: not the value of one cell") w, es)) := by
      cases u <;> first | exact .inr fun _ => rfl | exact .inl fun _ => rfl
    rcases key with key | key
    · rw [key] at hr
      cases hc : v.cell? a with
      | none =>
        obtain ⟨e, he, hok⟩ := farStore_err (P := P) h.nv a u (Mode.plain == Mode.atomic)
        simp only [hc, he] at hr
        cases hr
        exact hok
      | some u' =>
        simp only [hc] at hr
        cases hz : v.frozen? a with
        | true =>
          rw [hz] at hr
          simp only [if_true] at hr
          cases hr
          trivial
        | false =>
          rw [hz] at hr
          simp only [Bool.false_eq_true, if_false] at hr
          exact plain_halts k _ _ _ x v' es' hp (h.setCell (h.notX hc).1 u) hr
    · rw [key] at hr
      cases hr
      trivial
  | .new o k, w, v, es, x, v', es', hp, h, hr => plain_halts (k v.heap.size) _ _ es x v' es' (hp.2 _) (h.push hp.1) hr
  | .shape r k, w, v, es, x, v', es', hp, h, hr => plain_halts (k (v.shape? r)) w v es x v' es' (hp.2 _) h hr
  | .freeze a n k, _, _, _, _, _, _, hp, _, _ => hp.elim
  | .frozen a k, w, v, es, x, v', es', hp, h, hr => plain_halts (k (v.frozen? a)) w v es x v' es' (hp _) h hr
  | .getObj r k, w, v, es, x, v', es', hp, h, hr => by
    cases ho : v.heap[r]? with
    | none => simp only [Sem.runT, ho] at hr; cases hr; trivial
    | some o =>
      cases o with
      | cells c t fr => simp only [Sem.runT, ho] at hr; cases hr; trivial
      | _ =>
        simp only [Sem.runT, ho] at hr
        exact plain_halts (k _) w v _ x v' es' (hp.2 _) h hr
  | .setObj r o k, _, _, _, _, _, _, hp, _, _ => hp.elim
  | .choose q k, w, v, es, x, v', es', hp, h, hr => by
    cases hq : q.forced with
    | true =>
      simp only [Sem.runT, hq, if_true] at hr
      exact plain_halts (k 0) w v es x v' es' (hp _) h hr
    | false =>
      simp only [Sem.runT, hq, Bool.false_eq_true, if_false] at hr
      exact plain_halts (k _) _ _ es x v' es' (hp _) h.draw hr
  | .sys c k, _, _, _, _, _, _, hp, _, _ => hp.elim
  | .program k, w, v, es, x, v', es', hp, h, hr => plain_halts (k P) w v es x v' es' hp h hr
  | .mark m k, w, v, es, x, v', es', hp, h, hr => plain_halts k w v _ x v' es' hp.2 h hr
  | .halt y, w, v, es, x, v', es', hp, _, hr => by
    simp only [Sem.runT] at hr
    cases hr
    exact hp
end Go.Lf

/-
  The operations that a lone run is made of, that make no marks.
-/
namespace Go.Lf
section
variable {P : Program} {α β : Type}
theorem plain_pure (a : α) : Plain P (pure a : Sem α) := trivial
theorem plain_pure' (a : α) : Plain P (Sem.pure a) := trivial
theorem plain_stuck (s : String) : Plain P (stuck s : Sem α) := trivial
theorem plain_uns {u : Unsupported} (h : HaltOk (.unsupported u)) : Plain P (unsupported u : Sem α) := h
theorem plain_goPanic (v : Value) : Plain P (goPanic v : Sem α) := trivial
theorem plain_bind {s : Sem α} {f : α → Sem β} (h : Plain P s) (h' : ∀ a, Plain P (f a)) : Plain P (s >>= f) := Plain.bind s f h h'
theorem plain_map {s : Sem α} {f : α → β} (h : Plain P s) : Plain P (f <$> s) := Plain.bind s _ h fun _ => trivial
theorem plain_load (a : Addr) : Plain P (load a) := ⟨rfl, fun _ => trivial⟩
theorem plain_store (a : Addr) (v : Value) : Plain P (store a v) := ⟨rfl, trivial⟩
theorem plain_new {o : Obj} (h : NoView o) : Plain P (newObj o) := ⟨h, fun _ => trivial⟩
theorem plain_frozen (a : Addr) : Plain P (frozen a) := fun _ => trivial
theorem plain_getObj {r : Nat} {f : Obj → Sem β} (h : ∀ o o', Ghost o o' → f o = f o' ∨ Doomed P (f o')) (h' : ∀ o, Plain P (f o)) : Plain P (getObj r >>= f) := ⟨h, h'⟩
theorem ghost_both {f : Obj → Sem β} (h1 : ∀ a b t, f (.view a t) = f (.view b t)) (h2 : ∀ c t, f (.pending c t) = f (.stringIter .empty 0)) : ∀ o o', Ghost o o' → f o = f o' ∨ Doomed P (f o') := by
  intro o o' g
  rcases g with ⟨a, t, rfl, rfl⟩ | ⟨c, t, rfl, rfl⟩
  · exact .inl (h1 _ _ _)
  · exact .inl (h2 _ _)
theorem plain_numberAt (r : Nat) : Plain P (numberAt r) := by
  refine ⟨fun t n => .inr rfl, fun s => ?_⟩
  cases s with
  | some x => trivial
  | none =>
    refine ⟨fun o o' g => ?_, fun o => ?_⟩
    · rcases g with ⟨a, t, rfl, rfl⟩ | ⟨c, t, rfl, rfl⟩ <;> exact .inl rfl
    · cases o <;> trivial
theorem plain_viewBind {r : Nat} {f : Option (Addr × TypeId) → Sem β} (hd : ∀ y, Doomed P (f (some y))) (hs : ∀ y, Plain P (f (some y))) (hn : Plain P (f none)) : Plain P (viewAt r >>= f) := by
  refine ⟨fun t n => .inr rfl, fun s => ?_⟩
  cases s with
  | some x => exact hn
  | none =>
    refine ⟨fun o o' g => ?_, fun o => ?_⟩
    · rcases g with ⟨a, t, rfl, rfl⟩ | ⟨c, t, rfl, rfl⟩
      · exact .inr (hd _)
      · exact .inl rfl
    · cases o <;> first | exact hn | exact hs _
theorem plain_noView (a : Addr) : Plain P (noView a) := by
  refine ⟨fun t n => .inr rfl, fun s => ?_⟩
  cases s with
  | some x => trivial
  | none =>
    refine ⟨fun o o' g => ?_, fun o => ?_⟩
    · rcases g with ⟨a, t, rfl, rfl⟩ | ⟨c, t, rfl, rfl⟩
      · exact .inr trivial
      · exact .inl rfl
    · cases o <;> trivial
theorem plain_choose (q : Question) : Plain P (choose q) := fun _ => trivial
theorem plain_program : Plain P program := trivial
theorem plain_room (n : Nat) : Plain P (askRoom n) := by
  unfold askRoom
  split
  · exact ⟨.inl rfl, trivial⟩
  · trivial
theorem plain_ite {c : Prop} [Decidable c] {a b : Sem α} (h : Plain P a) (h' : Plain P b) : Plain P (if c then a else b) := by split <;> assumption

end
attribute [local irreducible] Plain
section
variable {P : Program} {α β : Type}
theorem plain_typeInfo (t : TypeId) : Plain P (typeInfo t) := by unfold typeInfo; (repeat' (first | with_reducible (first | exact plain_pure _ | exact plain_stuck _ | exact plain_program | (refine plain_bind ?_ (fun _ => ?_))) | split))
theorem plain_underlying (t : TypeId) : Plain P (underlying t) := by unfold underlying; (repeat' (first | with_reducible (first | exact plain_pure _ | exact plain_stuck _ | exact plain_program | (refine plain_bind ?_ (fun _ => ?_))) | split))
theorem plain_zeroValue (t : TypeId) : Plain P (zeroValue t) := by have := plain_typeInfo (P := P) t; unfold zeroValue; (repeat' (first | with_reducible (first | assumption | exact plain_pure _) | ((with_reducible refine plain_uns ?_); exact trivial) | with_reducible (refine plain_bind ?_ (fun _ => ?_)) | split))
theorem plain_sizeOf (t : TypeId) : Plain P (sizeOf t) := by have := plain_typeInfo (P := P) t; unfold sizeOf; (repeat' (with_reducible first | assumption | exact plain_pure _ | (refine plain_bind ?_ (fun _ => ?_))))
theorem plain_isAgg (t : TypeId) : Plain P (isAgg t) := by have := plain_underlying (P := P) t; unfold isAgg; (repeat' (first | with_reducible (first | assumption | exact plain_pure _ | (refine plain_bind ?_ (fun _ => ?_))) | split))
theorem plain_elemOf (t : TypeId) : Plain P (elemOf t) := by have := plain_underlying (P := P) t; unfold elemOf; (repeat' (first | with_reducible (first | assumption | exact plain_pure _ | exact plain_stuck _ | (refine plain_bind ?_ (fun _ => ?_))) | split))
theorem plain_loadCellsFrom (a : Addr) : ∀ (n i : Nat) (acc : Array Value), Plain P (loadCellsFrom a i n acc)
  | 0, _, acc => plain_pure acc
  | n + 1, i, acc => by
    unfold loadCellsFrom
    exact plain_bind (plain_load _) fun v => plain_loadCellsFrom a n _ _
theorem plain_loadCells (a : Addr) (n : Nat) : Plain P (loadCells a n) := plain_loadCellsFrom a n 0 #[]
theorem plain_storeCells (a : Addr) : ∀ (vs : List Value) (i : Nat), Plain P (storeCells a vs i)
  | [], _ => plain_pure ()
  | v :: r, i => by
    unfold storeCells
    exact plain_bind (plain_store _ _) fun _ => plain_storeCells a r _
theorem plain_loadVar (t : TypeId) (a : Addr) : Plain P (loadVar t a) := by
  have := plain_isAgg (P := P) t
  have := plain_sizeOf (P := P) t
  unfold loadVar
  (repeat' (with_reducible first | assumption | exact plain_pure _ | exact plain_load _ | exact plain_loadCells _ _ | (refine plain_bind ?_ (fun _ => ?_)) | (refine plain_ite ?_ ?_)))
theorem plain_storeVar (t : TypeId) (a : Addr) (v : Value) : Plain P (storeVar t a v) := by
  have h1 := plain_sizeOf (P := P) t
  unfold storeVar
  (repeat' (with_reducible first | assumption | exact plain_stuck _ | exact plain_storeCells _ _ _ | (refine plain_bind ?_ (fun _ => ?_)) | (refine plain_ite ?_ ?_)))
theorem plain_newCells (t : TypeId) (cs : Array Value) (fr : Nat × Nat) : Plain P (newObj (.cells cs t fr)) := plain_new (o := .cells cs t fr) trivial
theorem plain_newRow (t : TypeId) (cs : Array Value) : Plain P (newRow t cs) := by unfold newRow; (repeat' (with_reducible first | exact plain_pure _ | exact plain_newCells _ _ _ | (refine plain_bind ?_ (fun _ => ?_))))
theorem plain_newVar (t : TypeId) (v : Value) : Plain P (newVar t v) := plain_newRow t _
theorem plain_runtimePanic (e : RuntimeError) : Plain P (runtimePanic e : Sem α) := by
  unfold runtimePanic
  (repeat' (first | with_reducible (first | exact plain_goPanic _ | exact plain_program | exact plain_newVar _ _ | exact plain_elemOf _ | (refine plain_bind ?_ (fun _ => ?_))) | split))
theorem plain_boundsPanic (k : IntKind) (x y : Int) (c : BoundsCode) : Plain P (boundsPanic k x y c : Sem α) := by
  unfold boundsPanic
  (repeat' (with_reducible first | exact plain_pure _ | exact plain_choose _ | exact plain_runtimePanic _ | (refine plain_bind ?_ (fun _ => ?_)) | (refine plain_map ?_) | (refine plain_ite ?_ ?_)))
theorem plain_asIntOf (v : Value) : Plain P (asIntOf v) := by unfold asIntOf; (repeat' (first | with_reducible (first | exact plain_pure _ | exact plain_stuck _) | ((with_reducible refine plain_uns ?_); exact trivial) | split))
theorem plain_asInt (v : Value) : Plain P (asInt v) := by have := plain_asIntOf (P := P) v; unfold asInt; (repeat' (with_reducible first | assumption | exact plain_pure _ | (refine plain_bind ?_ (fun _ => ?_))))
theorem plain_asBool (v : Value) : Plain P (asBool v) := by unfold asBool; (repeat' (first | with_reducible (first | exact plain_pure _ | exact plain_stuck _) | split))
theorem plain_sureAddr (v : Value) : Plain P (Instr.sureAddr v) := by unfold Instr.sureAddr; (repeat' (first | with_reducible (first | exact plain_pure _ | exact plain_stuck _) | split))
theorem plain_asAddr (v : Value) : Plain P (asAddr v) := by
  unfold asAddr
  (repeat' (first | with_reducible (first | exact plain_pure _ | exact plain_stuck _ | exact plain_runtimePanic _) | split))


theorem plain_alloc (t : TypeId) (b : Bool) (o : Value) : Plain P (Instr.alloc t b o) := by unfold Instr.alloc; (repeat' (first | with_reducible (first | exact plain_pure _ | exact plain_zeroValue _ | exact plain_storeVar _ _ _ | exact plain_newVar _ _ | (refine plain_bind ?_ (fun _ => ?_))) | split))
theorem plain_loadAt (t : TypeId) (v : Value) : Plain P (Instr.loadAt t v) := by unfold Instr.loadAt; (repeat' (with_reducible first | exact plain_loadVar _ _ | exact plain_sureAddr _ | (refine plain_bind ?_ (fun _ => ?_))))
theorem plain_storeAt (t : TypeId) (v u : Value) : Plain P (Instr.storeAt t v u) := by unfold Instr.storeAt; (repeat' (with_reducible first | exact plain_storeVar _ _ _ | exact plain_sureAddr _ | (refine plain_bind ?_ (fun _ => ?_))))
theorem plain_indexAt (t : TypeId) (x i : Value) : Plain P (Instr.indexAt t x i) := by unfold Instr.indexAt; (repeat' (first | with_reducible (first | exact plain_pure _ | exact plain_stuck _) | ((with_reducible refine plain_uns ?_); exact trivial) | with_reducible (first | exact plain_underlying _ | exact plain_sizeOf _ | exact plain_boundsPanic _ _ _ _ | exact plain_asIntOf _ | exact plain_sureAddr _ | (refine plain_bind ?_ (fun _ => ?_)) | (refine plain_ite ?_ ?_)) | split))
theorem plain_sliceBound (x : Value) (y : Nat) (c : BoundsCode) : Plain P (Instr.sliceBound x y c) := by unfold Instr.sliceBound; (repeat' (with_reducible first | exact plain_pure _ | exact plain_boundsPanic _ _ _ _ | exact plain_asIntOf _ | (refine plain_bind ?_ (fun _ => ?_)) | (refine plain_ite ?_ ?_)))
theorem plain_sliceBounds (b : Bool) (l c : Nat) (lo hi mx : Option Value) : Plain P (Instr.sliceBounds b l c lo hi mx) := by
  unfold Instr.sliceBounds
  (repeat' (first | with_reducible (first | exact plain_pure _ | exact plain_stuck _ | exact plain_sliceBound _ _ _ | (refine plain_bind ?_ (fun _ => ?_))) | split))
theorem plain_slice (t : TypeId) (x : Value) (lo hi mx : Option Value) : Plain P (Instr.slice t x lo hi mx) := by
  unfold Instr.slice
  (repeat' (first | with_reducible (first | exact plain_pure _ | exact plain_stuck _ | exact plain_sliceBounds _ _ _ _ _ _ | exact plain_underlying _ | exact plain_sizeOf _ | exact plain_asAddr _ | (refine plain_bind ?_ (fun _ => ?_)) | (refine plain_ite ?_ ?_)) | split))
theorem plain_sliceAt (t : TypeId) (x : Value) (lo hi mx : Option Value) : Plain P (Instr.sliceAt t x lo hi mx) := by
  unfold Instr.sliceAt
  (repeat' (first | with_reducible (first | exact plain_pure _ | exact plain_sliceBounds _ _ _ _ _ _ | exact plain_slice _ _ _ _ _ | exact plain_underlying _ | exact plain_sizeOf _ | exact plain_sureAddr _ | (refine plain_bind ?_ (fun _ => ?_))) | split))
theorem plain_makeSlice (t : TypeId) (l c : Value) : Plain P (Instr.makeSlice t l c) := by unfold Instr.makeSlice; (repeat' (first | with_reducible (first | exact plain_pure _ | exact plain_stuck _ | exact plain_choose _ | exact plain_room _ | exact plain_typeInfo _ | exact plain_underlying _ | exact plain_zeroValue _ | exact plain_sizeOf _ | exact plain_newRow _ _ | exact plain_runtimePanic _ | exact plain_asInt _ | (refine plain_bind ?_ (fun _ => ?_)) | (refine plain_ite ?_ ?_)) | split))
theorem plain_extract (t : Value) (i : Nat) : Plain P (Instr.extract t i) := by unfold Instr.extract; (repeat' (first | with_reducible (first | exact plain_pure _ | exact plain_stuck _) | split))
theorem plain_unary (o : UnOp) (x : Value) : Plain P (Op.unary o x) := by unfold Op.unary Op.intArith Op.intBits; (repeat' (first | with_reducible (first | exact plain_pure _ | exact plain_stuck _) | ((with_reducible refine plain_uns ?_); exact trivial) | split))

theorem plain_shape {r : Nat} {f : Option (TypeId × Nat) → Sem β} (h : ∀ t n, Doomed P (f (some (t, 0))) ∨ f (some (t, n)) = f (some (t, 0))) (h' : ∀ s, Plain P (f s)) : Plain P (shape r >>= f) := by
  unfold Plain
  exact ⟨h, h'⟩
theorem plain_behind (a : Addr) : Plain P (behindNumber a) := by unfold behindNumber; (repeat' (with_reducible first | exact plain_pure _ | exact plain_numberAt _ | (refine plain_bind ?_ (fun _ => ?_))))
theorem plain_byteOf (a : Addr) : Plain P (byteOf a) := by
  unfold byteOf
  split
  · (repeat' (with_reducible exact plain_pure _))
  refine plain_bind plain_program fun p => plain_bind (plain_noView a) fun _ => plain_shape (fun _ _ => .inr rfl) fun s => ?_
  (repeat' (first | with_reducible (first | exact plain_pure _ | exact plain_stuck _ | (refine plain_ite ?_ ?_)) | split))
theorem plain_partAt (a : Addr) (c b : Nat) : Plain P (partAt a c b) := by unfold partAt; (repeat' (with_reducible first | exact plain_pure _ | exact plain_byteOf _ | (refine plain_bind ?_ (fun _ => ?_))))
theorem plain_fieldPlace (a : Addr) (f : Field) : Plain P (fieldPlace a f) := by unfold fieldPlace; (repeat' (with_reducible first | exact plain_pure _ | exact plain_partAt _ _ _ | exact plain_sizeOf _ | (refine plain_bind ?_ (fun _ => ?_)) | (refine plain_ite ?_ ?_)))
theorem plain_fieldAt (t : TypeId) (x : Value) (f : Nat) : Plain P (Instr.fieldAt t x f) := by unfold Instr.fieldAt; (repeat' (first | with_reducible (first | exact plain_pure _ | exact plain_stuck _ | exact plain_fieldPlace _ _ | exact plain_underlying _ | exact plain_sureAddr _ | (refine plain_bind ?_ (fun _ => ?_))) | split))
theorem plain_part (t : TypeId) (cs : Array Value) (o : Nat) : Plain P (part t cs o) := by unfold part; (repeat' (first | with_reducible (first | exact plain_pure _ | exact plain_stuck _ | exact plain_sizeOf _ | exact plain_isAgg _ | (refine plain_bind ?_ (fun _ => ?_)) | (refine plain_ite ?_ ?_)) | split))
theorem plain_asAgg (v : Value) : Plain P (asAgg v) := by unfold asAgg; (repeat' (first | with_reducible (first | exact plain_pure _ | exact plain_stuck _) | split))
theorem plain_field (t : TypeId) (x : Value) (f : Nat) : Plain P (Instr.field t x f) := by unfold Instr.field; (repeat' (first | with_reducible (first | exact plain_stuck _ | exact plain_underlying _ | exact plain_part _ _ _ | exact plain_asAgg _ | (refine plain_bind ?_ (fun _ => ?_))) | split))
theorem plain_index (t : TypeId) (x i : Value) : Plain P (Instr.index t x i) := by unfold Instr.index; (repeat' (first | with_reducible (first | exact plain_pure _ | exact plain_stuck _ | exact plain_underlying _ | exact plain_part _ _ _ | exact plain_sizeOf _ | exact plain_asIntOf _ | exact plain_boundsPanic _ _ _ _ | (refine plain_bind ?_ (fun _ => ?_)) | (refine plain_ite ?_ ?_)) | split))
theorem plain_buildSlice (t : TypeId) (n : Nat) (ps : Array (Nat × Value)) : Plain P (Instr.buildSlice t n ps) := by unfold Instr.buildSlice; (repeat' (first | with_reducible (first | exact plain_pure _ | exact plain_stuck _) | ((with_reducible refine plain_uns ?_); exact trivial) | with_reducible (first | exact plain_underlying _ | exact plain_zeroValue _ | exact plain_sizeOf _ | exact plain_newRow _ _ | (refine plain_bind ?_ (fun _ => ?_)) | (refine plain_ite ?_ ?_)) | split | (dsimp only)))
theorem plain_box (t : TypeId) (v : Value) : Plain P (Instr.box t v) := by unfold Instr.box; (repeat' (with_reducible first | exact plain_pure _ | exact plain_newVar _ _ | (refine plain_bind ?_ (fun _ => ?_))))
theorem plain_lenOf (v : Value) : Plain P (Builtin.lenOf v) := by unfold Builtin.lenOf; (repeat' (first | with_reducible (first | exact plain_pure _ | exact plain_stuck _) | split))
theorem plain_firstCells (a b : Nat) (v : Value) : Plain P (Builtin.firstCells a b v) := by unfold Builtin.firstCells; (repeat' (first | with_reducible (first | exact plain_pure _ | exact plain_stuck _ | exact plain_loadCells _ _) | split))
theorem plain_copy (ts : Array TypeId) (t : TypeId) (as : Array Value) : Plain P (Builtin.copy_ ts t as) := by unfold Builtin.copy_; (repeat' (first | with_reducible (first | exact plain_pure _ | exact plain_stuck _ | exact plain_underlying _ | exact plain_lenOf _ | exact plain_firstCells _ _ _ | exact plain_sizeOf _ | exact plain_storeCells _ _ _ | (refine plain_bind ?_ (fun _ => ?_))) | split))
theorem plain_len (ts : Array TypeId) (t : TypeId) (as : Array Value) : Plain P (Builtin.len_ ts t as) := by unfold Builtin.len_; (repeat' (first | with_reducible (first | exact plain_pure _ | exact plain_stuck _ | exact plain_underlying _) | ((with_reducible refine plain_getObj ?_ ?_); (focus (exact ghost_both (fun _ _ _ => rfl) (fun _ _ => rfl))); (intro _)) | with_reducible (refine plain_bind ?_ (fun _ => ?_)) | split))
theorem plain_cap (ts : Array TypeId) (t : TypeId) (as : Array Value) : Plain P (Builtin.cap_ ts t as) := by unfold Builtin.cap_; (repeat' (first | with_reducible (first | exact plain_pure _ | exact plain_stuck _ | exact plain_underlying _) | ((with_reducible refine plain_getObj ?_ ?_); (focus (exact ghost_both (fun _ _ _ => rfl) (fun _ _ => rfl))); (intro _)) | with_reducible (refine plain_bind ?_ (fun _ => ?_)) | split))
end
end Go.Lf

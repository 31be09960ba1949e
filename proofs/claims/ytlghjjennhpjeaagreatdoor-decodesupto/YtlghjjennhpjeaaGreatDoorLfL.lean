/-
  From a lone run's steps to its trace, and on through the fork.
-/
import Derived.Test.YtlghjjennhpjeaaGreatDoorLfF
import Derived.Test.YtlghjjennhpjeaaGreatDoorGhL
import Derived.Conc.Fork
import Derived.DuoClaim
import Derived.Conc.Own4
import Derived.Conc.Walk
import Derived.Handed
import Derived.Leaving
namespace Go.Lf
open Go.Conc Go.ConcN
open Go.ConcR (KK WgAt stA smA rd wr mk Payload DC0 g_of_ofEvents)

section
variable {P : Program} {X : Nat → Prop}

def OpP (X : Nat → Prop) (w : World) (op : MemOp) : Prop := op.g = 0 ∧ ∃ e, op.act = .ofEvent e ∧ EvP X w e

theorem gets_size {g g' : Goroutine} {w w' : World} (h : Gets P X g w g' w') : w.heap.size ≤ w'.heap.size := by
  induction h with
  | refl => exact Nat.le_refl _
  | step _ _ _ d _ ih => exact Nat.le_trans d ih

theorem gets_run {g g' : Goroutine} {w w' : World} (h : Gets P X g w g' w') : ∀ t : Trace, ∃ k u, runNT P k (solo g w) t = (.next (solo g' w'), t ++ u) ∧ ∀ op ∈ u, OpP X w' op := by
  induction h with
  | refl => exact fun t => ⟨0, #[], by simp [runNT], by simp⟩
  | @step g g1 g2 w w1 w2 es a b c d hG ih =>
    intro t
    obtain ⟨k, u, h1, h2⟩ := ih (t ++ MemOp.ofEvents 0 g.frame.fn g.frame.place es)
    refine ⟨k + 1, MemOp.ofEvents 0 g.frame.fn g.frame.place es ++ u, ?_, fun op hop => ?_⟩
    · rw [runNT_succ_next ((stepT_solo a).trans (runT_solo_go b)), h1, Array.append_assoc]
    · rcases Array.mem_append.1 hop with h | h
      · rw [ofEvents_eq] at h
        obtain ⟨e, he, rfl⟩ := Array.mem_map.1 h
        exact ⟨rfl, e, rfl, (c e he).grow (gets_size hG)⟩
      · exact h2 op h

/-- What lies beyond the heap is not touched. -/
theorem Gets.avoid {Wg : Nat} {g g' : Goroutine} {w w' : World} (h : Gets P NoX g w g' w') : w'.heap.size ≤ Wg → Gets P (· = Wg) g w g' w' := by
  induction h with
  | refl => exact fun _ => .refl _ _
  | @step g g1 g2 w w1 w2 es a b c d hG ih =>
    intro hs
    have := gets_size hG
    refine .step a b (fun e he => ?_) d (ih hs)
    rcases c e he with ⟨ad, wr, h1, h2, h3⟩ | ⟨r, wr, sy, h1, h2, h3⟩ | h1
    · exact .inl ⟨ad, wr, h1, h2, by omega⟩
    · exact .inr (.inl ⟨r, wr, sy, h1, h2, by omega⟩)
    · exact .inr (.inr h1)

theorem opP_touch {Wg : Nat} {w : World} {op : MemOp} (h : OpP (· = Wg) w op) : (∀ x, op.act.touch? = some x → ¬ ShN Wg x.loc) ∧ (∀ x, op.act.touch? = some x → ∀ ad, x.loc = .cell ad → ad.block < w.heap.size) ∧ (∀ m, op.act = .mark m → OkMark m) := by
  obtain ⟨_, e, he, hp⟩ := h
  have key : ∀ x, op.act.touch? = some x → ∃ l wr sy, e = ⟨l, wr, sy⟩ ∧ x.loc = l ∧ ((∃ a, l = .cell a ∧ a.block < w.heap.size ∧ a.block ≠ Wg) ∨ ∃ r, l = .obj r) := by
    intro x hx
    rw [he] at hx
    rcases hp with ⟨a, wr, rfl, h2, h3⟩ | ⟨r, wr, sy, rfl, h2, h3⟩ | ⟨m0, hm0, rfl⟩
    · simp only [MemAct.ofEvent, MemAct.touch?, Option.some.injEq] at hx
      subst hx
      exact ⟨_, _, _, rfl, rfl, .inl ⟨a, rfl, h2, h3⟩⟩
    · cases wr <;> cases sy <;> simp only [MemAct.ofEvent, MemAct.touch?, Option.some.injEq, reduceCtorEq] at hx <;> (subst hx; exact ⟨_, _, _, rfl, rfl, .inr ⟨r, rfl⟩⟩)
    · rcases hm0 with rfl | ⟨_, rfl⟩ <;> simp [MemAct.ofEvent, MemAct.touch?] at hx
  refine ⟨fun x hx => ?_, fun x hx ad e' => ?_, fun m hm => ?_⟩
  · obtain ⟨l, wr, sy, _, h2, h3⟩ := key x hx
    rintro ⟨a, h4, h5⟩
    rcases h3 with ⟨a', h6, _, h7⟩ | ⟨r, h6⟩
    · rw [h2, h6] at h4; cases h4; exact h7 h5
    · rw [h2, h6] at h4; cases h4
  · obtain ⟨l, wr, sy, _, h2, h3⟩ := key x hx
    rcases h3 with ⟨a', h6, h7, _⟩ | ⟨r, h6⟩
    · rw [h2, h6] at e'; cases e'; exact h7
    · rw [h2, h6] at e'; cases e'
  · rw [he] at hm
    rcases hp with ⟨a, wr, rfl, h2, h3⟩ | ⟨r, wr, sy, rfl, h2, h3⟩ | ⟨m0, hm0, rfl⟩
    · simp [MemAct.ofEvent] at hm
    · cases wr <;> cases sy <;> simp [MemAct.ofEvent] at hm
    · rcases hm0 with rfl | ⟨f, rfl⟩
      · simp only [MemAct.ofEvent, MemAct.mark.injEq] at hm
        exact .inl hm.symm
      · simp only [MemAct.ofEvent, MemAct.mark.injEq] at hm
        exact .inr ⟨f, hm.symm⟩

end
end Go.Lf

/-
  A lone run, carried over beside goroutines that only leave: what it draws comes from other places of the tape; since it ends on every tape, it ends here.
-/
namespace Go.Lf
open Go.Conc Go.ConcN

/-- What own steps list is listed by D. -/
def Dok (X : Nat → Prop) (D : Nat → World → Array Event → Prop) : Prop := ∀ n w es, n ≤ w.heap.size → EvsP X w es → D n w es
theorem Dok.nil {X : Nat → Prop} {D : Nat → World → Array Event → Prop} (h : Dok X D) {n : Nat} {w : World} (hs : n ≤ w.heap.size) : D n w #[] := h _ _ _ hs fun _ he => by simp at he
theorem Dok.to {X : Nat → Prop} {D : Nat → World → Array Event → Prop} (h : Dok X D) {n : Nat} {w w' : World} {es : Array Event} (hs : w.heap.size = w'.heap.size) (hn : n ≤ w.heap.size) (he : EvsP X w es) : D n w' es := h _ _ _ (hs ▸ hn) fun e hm => (he e hm).grow (Nat.le_of_eq hs)
/-- Steps to a stop; the place on the tape may have moved between two. -/
inductive GoesI (P : Program) (D : Nat → World → Array Event → Prop) (Stop : Goroutine → World → Prop) : Goroutine → World → Prop
  | stop {g : Goroutine} {w : World} : (∀ d, Stop g (w.at d)) → GoesI P D Stop g w
  | step {g : Goroutine} {w : World} (n : Nat → Goroutine) (u : Nat → World) (es : Nat → Array Event) : g.status = .running → (∀ d, stepG P true g (w.at d) = .go (n d) (u d) (es d) ∧ D w.heap.size (u d) (es d)) → (∀ d, GoesI P D Stop (n d) (u d)) → GoesI P D Stop g w

section
variable {P : Program} {F : FuncId → Bool} {X : Nat → Prop} {Y : Nat → Option Obj} {D : Nat → World → Array Event → Prop} {Stop : Goroutine → World → Prop}

theorem GoesI.next {g : Goroutine} {w : World} (hs : g.status = .running) (h : ∀ d, ∃ g' w' es, stepG P true g (w.at d) = .go g' w' es ∧ D w.heap.size w' es ∧ GoesI P D Stop g' w') : GoesI P D Stop g w := by
  refine .step (fun d => (h d).choose) (fun d => (h d).choose_spec.choose) (fun d => (h d).choose_spec.choose_spec.choose) hs (fun d => ⟨?_, ?_⟩) (fun d => ?_)
  · exact (h d).choose_spec.choose_spec.choose_spec.1
  · exact (h d).choose_spec.choose_spec.choose_spec.2.1
  · exact (h d).choose_spec.choose_spec.choose_spec.2.2

/-- Like each other but for the tape. -/
def SimT (X : Nat → Prop) (Y : Nat → Option Obj) (w v : World) : Prop := ∃ τ d, Sim X Y w { v with tape := τ, drawn := d }
theorem Sim.t {w v : World} (h : Sim X Y w v) : SimT X Y w v := ⟨v.tape, v.drawn, h⟩
theorem SimT.re {w v : World} (h : SimT X Y w v) (d d' : Nat) (τ : Nat → Question → Nat) (hs : ∀ i q, w.tape (d + i) q = τ (d' + i) q) : Sim X Y (w.at d) { v with tape := τ, drawn := d' } := by
  obtain ⟨τ0, d0, h⟩ := h
  exact ⟨h.size, h.bound, h.same, h.gho, h.doc, h.nv, h.os, h.out, hs, h.unf⟩
theorem SimT.to {w v : World} (h : SimT X Y w v) (τ : Nat → Question → Nat) (d : Nat) : SimT X Y w { v with tape := τ, drawn := d } := by
  obtain ⟨τ0, d0, h⟩ := h
  exact ⟨τ0, d0, h⟩
theorem SimT.at {w v : World} (h : SimT X Y w v) (d : Nat) : SimT X Y (w.at d) v := ⟨fun p => w.tape (d + p), 0, h.re d 0 _ fun i q => by simp⟩

structure Sg where
  f : Frame
  r : List Frame
  u : World
  w : World

variable (P F X Y D Stop) in
structure SgInv (K : List Item) (cs : List Frame) (fn : FuncId) (Q : Exit → Act → World → Prop) (s : Sg) : Prop where
  tf : TFr P F s.f
  mode : s.f.mode = .run ∨ s.f.mode = .returning
  stack : Stack P F s.r
  sim : SimT X Y s.w s.u
  law : ∀ τ : Nat → Question → Nat, (∀ p, p < s.u.drawn → τ p = s.u.tape p) → ∃ n a' v', ownN P n s.f (s.r ++ [f0]) { s.u with tape := τ } ((base fn).at a' []) [f0] v' ∧ Q .normal a' v'
  no : ¬ GoesI P D Stop (extG K cs s.f s.r) s.w

variable (P) in
def SgNext (s s' : Sg) : Prop := s.u.drawn ≤ s'.u.drawn ∧ (∀ p, p < s.u.drawn → s'.u.tape p = s.u.tape p) ∧
  ∀ τ : Nat → Question → Nat, (∀ p, s.u.drawn ≤ p → p < s'.u.drawn → τ p = s'.u.tape p) → ∃ es, stepG P true (G s.f (s.r ++ [f0])) { s.u with tape := τ } = .go (G s'.f (s'.r ++ [f0])) { s'.u with tape := τ } es

theorem sg_end {K : List Item} {cs : List Frame} {fn : FuncId} {Q : Exit → Act → World → Prop} (hK : ∀ a' v' w', Q .normal a' v' → SimT X Y w' v' → GoesI P D Stop (G ((base fn).at a' K) cs) w') {s : Sg} (hi : SgInv P F X Y D Stop K cs fn Q s) {τ : Nat → Question → Nat} {a' : Act} {v' : World}
    (h : ownN P 0 s.f (s.r ++ [f0]) { s.u with tape := τ } ((base fn).at a' []) [f0] v') (hq : Q .normal a' v') : False := by
  obtain ⟨h1, h2, h3⟩ := own_zero h
  have hr : s.r = [] := by
    have := congrArg List.length h2
    simp at this
    exact this
  apply hi.no
  have : extG K cs s.f s.r = G ((base fn).at a' K) cs := by rw [hr, h1]; rfl
  rw [this]
  refine hK a' v' s.w hq ?_
  rw [← h3]
  exact hi.sim.to τ s.u.drawn

theorem end_ret {f : Frame} (hT : TFr P F f) (hm : f.mode = .run) (ht : f.todo = []) (cs : List Frame) (u : World) : stepG P true (G f cs) u = .go (G { f with mode := .returning } cs) u #[] := by
  obtain ⟨fn, tmps, todo, defers, mode, kind, round⟩ := f
  have hk := hT.kind
  have hd := hT.defers
  have hr := hT.round
  dsimp only at hk hd hr ht hm
  subst hk hd hr ht hm
  rfl

theorem sg_next (hF : GoodF P F) (hD : Dok X D) {K : List Item} {cs : List Frame} {fn : FuncId} {Q : Exit → Act → World → Prop} (hK : ∀ a' v' w', Q .normal a' v' → SimT X Y w' v' → GoesI P D Stop (G ((base fn).at a' K) cs) w') {s : Sg}
    (hi : SgInv P F X Y D Stop K cs fn Q s) : ∃ s', SgInv P F X Y D Stop K cs fn Q s' ∧ SgNext P s s' := by
  have hst : (extG K cs s.f s.r).status = .running := by cases s.r <;> rfl
  obtain ⟨d, hd⟩ : ∃ d, ∀ g' w' es, stepG P true (extG K cs s.f s.r) (s.w.at d) = .go g' w' es → D s.w.heap.size w' es → ¬ GoesI P D Stop g' w' := by
    refine Classical.byContradiction fun hno => hi.no (.next hst fun d => ?_)
    refine Classical.byContradiction fun hd => hno ⟨d, fun g' w' es h1 h2 h3 => hd ⟨g', w', es, h1, h2, h3⟩⟩
  let τ₁ : Nat → Question → Nat := fun p q => if p < s.u.drawn then s.u.tape p q else s.w.tape (d + (p - s.u.drawn)) q
  have hs : Sim X Y (s.w.at d) { s.u with tape := τ₁ } := hi.sim.re d s.u.drawn τ₁ fun i q => by
    show s.w.tape (d + i) q = if s.u.drawn + i < s.u.drawn then _ else _
    rw [if_neg (by omega), show s.u.drawn + i - s.u.drawn = i by omega]
  have hag : ∀ p, p < s.u.drawn → τ₁ p = s.u.tape p := fun p hp => by
    funext q
    show (if p < s.u.drawn then _ else _) = _
    rw [if_pos hp]
  obtain ⟨n, a', v', hn, hq⟩ := hi.law τ₁ hag
  cases n with
  | zero => exact (sg_end hK hi hn hq).elim
  | succ n =>
    -- what is to be shown once a step is found
    have mk : ∀ (f' : Frame) (r' : List Frame) (u₂ w₂ : World) (es : Array Event), TFr P F f' → (f'.mode = .run ∨ f'.mode = .returning) → Stack P F r' → Sim X Y w₂ u₂ → Tp P (G s.f (s.r ++ [f0])) { s.u with tape := τ₁ } (G f' (r' ++ [f0])) u₂ es →
        stepG P true (extG K cs s.f s.r) (s.w.at d) = .go (extG K cs f' r') w₂ es → s.w.heap.size ≤ w₂.heap.size → EvsP X w₂ es → ∃ s', SgInv P F X Y D Stop K cs fn Q s' ∧ SgNext P s s' := fun f' r' u₂ w₂ es h1 h2 h3 h4 h5 h6 h8 h7 => by
      obtain ⟨t1, t2, t3⟩ := h5
      dsimp only at t1 t2 t3
      refine ⟨⟨f', r', u₂, w₂⟩, ⟨h1, h2, h3, h4.t, fun τ hτ => ?_, hd _ _ _ h6 (hD _ _ _ h8 h7)⟩, t2, fun p hp => by rw [t1]; exact hag p hp, fun τ hτ => ⟨es, t3 τ fun p hp1 hp2 => by rw [hτ p hp1 hp2, t1]⟩⟩
      dsimp only at hτ
      obtain ⟨n, a', v', hn, hq⟩ := hi.law τ fun p hp => by rw [hτ p (by omega), t1]; exact hag p hp
      cases n with
      | zero => exact (sg_end hK hi hn hq).elim
      | succ n => exact ⟨n, a', v', own_go (t3 τ fun p _ hp2 => by rw [hτ p hp2, t1]) hn, hq⟩
    rcases hi.mode with hm | hm
    · by_cases hend : s.r = [] ∧ s.f.todo = []
      · obtain ⟨hr, ht⟩ := hend
        rw [hr] at hn
        have e := end_ret hi.tf hm ht ([] ++ [f0]) { s.u with tape := τ₁ }
        have h2 := own_go e hn
        cases n with
        | zero =>
          obtain ⟨h3, _⟩ := own_zero h2
          have := congrArg Frame.mode h3
          cases this
        | succ n =>
          rcases tback (c := f0) (r := []) (f := { s.f with mode := .returning }) (F := F) ⟨hi.tf.fn, hi.tf.kind, hi.tf.defers, hi.tf.round, hi.tf.todo⟩ rfl hs with ⟨o, v'', es', he⟩ | ⟨y, v'', es', w', he, _⟩
          · exact (own_end he h2).elim
          · exact absurd (own_go he h2) (f0_end n _ _ v')
      · rcases tstep (cs := s.r ++ [f0]) hF hi.tf hm hs with ⟨o, v'', es', he⟩ | ⟨ch, v'', es', he⟩ | ⟨g', v'', es', w', he, htp, hs', hsz, hev, hway⟩
        · exact (own_end he hn).elim
        · exact absurd (own_go he hn) (dead_end (F := F) n _ s.r ch _ _ [f0] v' (stack_mem hi.stack) rfl ⟨hi.tf.fn, hi.tf.defers⟩ rfl)
        · cases hway with
          | @here f' hg hT' hm' hB =>
            subst hg
            refine mk f' s.r v'' w' es' hT' hm' hi.stack hs' htp ?_ hsz hev
            cases hr : s.r with
            | nil => exact hB K cs fun ht => absurd ⟨hr, ht⟩ hend
            | cons c r =>
              have := hB [] (extS K cs (c :: r)) (fun _ => rfl)
              rw [extB_nil, extB_nil] at this
              exact this
          | @call e hg hTe hme hne hB =>
            subst hg
            refine mk e (s.f :: s.r) v'' w' es' hTe (.inl hme) ⟨⟨hi.tf, hm, hne.1, finish_ok hi.tf hm hne⟩, hi.stack⟩ hs' htp ?_ hsz hev
            cases hr : s.r with
            | nil => exact hB K cs
            | cons c r =>
              have := hB [] (extS K cs (c :: r))
              rw [extB_nil] at this
              exact this
          | back _ _ hr _ => rw [hm] at hr; cases hr
    · cases hr : s.r with
      | nil =>
        rw [hr] at hn
        rcases tback (c := f0) (r := []) (F := F) hi.tf hm hs with ⟨o, v'', es', he⟩ | ⟨y, v'', es', w', he, _⟩
        · exact (own_end he hn).elim
        · exact absurd (own_go he hn) (f0_end n _ _ v')
      | cons c r =>
        have hS := hi.stack
        rw [hr] at hn hS mk
        rcases tback (c := c) (r := r ++ [f0]) (F := F) hi.tf hm hs with ⟨o, v'', es', he⟩ | ⟨y, v'', es', w', he, htp, hs', hsz, hev, hB⟩
        · exact (own_end he hn).elim
        · obtain ⟨hTc, hmc, hfin⟩ := hS.1.2.2.2 y
          refine mk (c.finish y) r v'' w' es' hTc (.inl hmc) hS.2 hs' htp ?_ hsz hev
          cases r with
          | nil =>
            have := hB (extB K c) cs
            rw [hfin K] at this
            exact this
          | cons d r => exact hB c (extS K cs (d :: r))

/-- ████ A piece of code, by its lone law on every tape. -/
theorem segI (hF : GoodF P F) (hD : Dok X D) {c : Code} (hc : okCode P F c = true) {Q : Exit → Act → World → Prop} {a : Act} {v : World} (h : ∀ τ d, c.wp P Q a { v with tape := τ, drawn := d }) (hQ : ∀ e a' v', Q e a' v' → e = .normal ∧ a'.defers = []) (ha : a.defers = [])
    {fn : FuncId} (hf : ∃ fun0, P.funcs[fn]? = some fun0) {w : World} (hs : SimT X Y w v) {K : List Item} {cs : List Frame} (hK : ∀ a' v' w', Q .normal a' v' → SimT X Y w' v' → GoesI P D Stop (G ((base fn).at a' K) cs) w') : GoesI P D Stop (G ((base fn).at a (.code c :: K)) cs) w := by
  refine Classical.byContradiction fun hno => ?_
  have start : SgInv P F X Y D Stop K cs fn Q ⟨(base fn).at a [.code c], [], { v with drawn := 0 }, w⟩ := by
    refine ⟨⟨hf, rfl, ha, rfl, [], fun x hx => by simp [Frame.at] at hx; subst hx; exact hc, InvS.nil⟩, .inl rfl, trivial, hs.to v.tape 0, fun τ _ => ?_, hno⟩
    obtain ⟨e, a', v', hq, harr⟩ := h τ 0 (base fn) [] [f0]
    obtain ⟨rfl, _⟩ := hQ _ _ _ hq
    obtain ⟨n, hn⟩ : Steps P (lone ((base fn).at a [.code c]) [f0] { v with tape := τ, drawn := 0 }) (lone ((base fn).at a' []) [f0] v') := harr
    exact ⟨n, a', v', hn, hq⟩
  let nx : {s // SgInv P F X Y D Stop K cs fn Q s} → {s // SgInv P F X Y D Stop K cs fn Q s} := fun s => ⟨(sg_next hF hD hK s.2).choose, (sg_next hF hD hK s.2).choose_spec.1⟩
  have nxs : ∀ s, SgNext P s.1 (nx s).1 := fun s => (sg_next hF hD hK s.2).choose_spec.2
  let q : Nat → {s // SgInv P F X Y D Stop K cs fn Q s} := fun n => Nat.rec ⟨_, start⟩ (fun _ s => nx s) n
  have qs : ∀ n, SgNext P (q n).1 (q (n + 1)).1 := fun n => nxs (q n)
  have mono : ∀ n m, n ≤ m → (q n).1.u.drawn ≤ (q m).1.u.drawn ∧ ∀ p, p < (q n).1.u.drawn → (q m).1.u.tape p = (q n).1.u.tape p := by
    intro n m hnm
    induction m with
    | zero =>
      obtain rfl : n = 0 := by omega
      exact ⟨Nat.le_refl _, fun _ _ => rfl⟩
    | succ m ih =>
      rcases Nat.lt_or_ge n (m + 1) with hlt | hge
      · obtain ⟨h1, h2⟩ := ih (by omega)
        have h3 := qs m
        exact ⟨Nat.le_trans h1 h3.1, fun p hp => (h3.2.1 p (by omega)).trans (h2 p hp)⟩
      · obtain rfl : n = m + 1 := by omega
        exact ⟨Nat.le_refl _, fun _ _ => rfl⟩
  have dec : ∀ p, Decidable (∃ n, p < (q n).1.u.drawn) := fun p => Classical.propDecidable _
  let τ : Nat → Question → Nat := fun p => if h : ∃ n, p < (q n).1.u.drawn then (q h.choose).1.u.tape p else fun _ => 0
  have agree : ∀ n p, p < (q n).1.u.drawn → τ p = (q n).1.u.tape p := fun n p hp => by
    have hex : ∃ n, p < (q n).1.u.drawn := ⟨n, hp⟩
    show (if h : ∃ n, p < (q n).1.u.drawn then (q h.choose).1.u.tape p else fun _ => 0) = _
    rw [dif_pos hex]
    have hc := hex.choose_spec
    rcases Nat.le_total n hex.choose with hle | hle
    · exact (mono n _ hle).2 p hp
    · exact ((mono _ n hle).2 p hc).symm
  have never : ∀ (m i : Nat) (a' : Act) (v' : World), ownN P m (q i).1.f ((q i).1.r ++ [f0]) { (q i).1.u with tape := τ } ((base fn).at a' []) [f0] v' → Q .normal a' v' → False := by
    intro m
    induction m with
    | zero => exact fun i a' v' h hq => sg_end hK (q i).2 h hq
    | succ m ih =>
      intro i a' v' h hq
      obtain ⟨es, he⟩ := (qs i).2.2 τ fun p _ hp => agree (i + 1) p hp
      exact ih (i + 1) a' v' (own_go he h) hq
  obtain ⟨n, a', v', hn, hq⟩ := (q 0).2.law τ fun p hp => agree 0 p hp
  exact never n 0 a' v' hn hq
end
end Go.Lf

/-
  Goroutine 0 beside goroutines that only leave, step by step; and the fork, up to its join.
-/
namespace Go.Lf
open Go.Conc Go.ConcN Go.Gh
open Go.ConcR (KK WgAt stA smA rd wr mk Payload DC0 g_of_ofEvents)

/-- What a step of goroutine 0's may list behind a join. -/
def EvM (Shun : Loc → Prop) (e : Event) : Prop := (∀ x, (MemAct.ofEvent e).touch? = some x → Shun x.loc → x.kind ≠ .plain) ∧ e.loc ≠ .mark .disable ∧ e.loc ≠ .mark .enable

theorem low_events (es : Array Event) : ∃ B, ∀ e ∈ es, (MemAct.ofEvent e).low B := by
  obtain ⟨B, hB⟩ := low_bound_all (MemOp.ofEvents 0 0 "" es)
  refine ⟨B, fun e he => ?_⟩
  have : ({ g := 0, fn := 0, pos := "", act := .ofEvent e } : MemOp) ∈ MemOp.ofEvents 0 0 "" es := by
    rw [ofEvents_eq]
    exact Array.mem_map.2 ⟨e, he, rfl⟩
  exact hB _ this

section
variable {P : Program} {Shun : Loc → Prop} {D : Nat → World → Array Event → Prop} {Stop : Goroutine → World → Prop} {Fin : Machine → Trace → Prop}

theorem GoesI.at {g : Goroutine} {w : World} (h : GoesI P D Stop g w) (d : Nat) : GoesI P D Stop g (w.at d) := by
  cases h with
  | stop h => exact .stop fun d' => h d'
  | step n u es h1 h2 h3 => exact .step n u es h1 (fun d' => h2 d') h3

/-- Beside leavers: what is kept. -/
structure Bes (P : Program) (Shun : Loc → Prop) (e : Nat) (gs : Array Goroutine) (W : World) (t : Trace) (q : Nat → Nat) : Prop where
  size : gs.size = e + 1
  old : Leavers P t gs q
  past : ∃ B, Past Shun B t
  late : LateT Shun W.heap.size e t

theorem Bes.at {e : Nat} {gs : Array Goroutine} {W : World} {t : Trace} {q : Nat → Nat} (h : Bes P Shun e gs W t q) (d : Nat) : Bes P Shun e gs (W.at d) t q := ⟨h.size, h.old, h.past, h.late⟩

theorem LateT.app0 {sz sz' e : Nat} {t : Trace} {fn : FuncId} {pos : String} {es : Array Event} (h : LateT Shun sz e t) (hs : sz ≤ sz') (hes : ∀ x ∈ es, EvM Shun x ∧ ∀ y, (MemAct.ofEvent x).touch? = some y → ∀ ad, y.loc = .cell ad → ad.block < sz') : LateT Shun sz' e (t ++ MemOp.ofEvents 0 fn pos es) := by
  refine ⟨h.quiet.app fun op hop x hx hsh => ?_, fun op hop => ?_, fun op hop x hx => ?_⟩
  · obtain ⟨ev, he, rfl⟩ := Go.Conc.mem_ofEvents hop
    exact ⟨(hes ev he).1.1 x hx hsh, fun _ => rfl⟩
  · rcases Array.mem_append.1 hop with h1 | h1
    · exact h.gs op h1
    · obtain ⟨ev, _, rfl⟩ := Go.Conc.mem_ofEvents h1
      exact Nat.zero_le _
  · rcases Array.mem_append.1 hop with h1 | h1
    · exact ⟨fun ad e' => Nat.lt_of_lt_of_le ((h.low op h1 x hx).1 ad e') hs, (h.low op h1 x hx).2⟩
    · obtain ⟨ev, he, rfl⟩ := Go.Conc.mem_ofEvents h1
      exact ⟨(hes ev he).2 x hx, fun h0 => absurd rfl h0⟩
theorem LateT.mute {sz e i : Nat} {t : Trace} {fn : FuncId} {pos : String} {es : Array Event} (h : LateT Shun sz e t) (hi : i ≤ e) (hm : ∀ x ∈ es, Event.mute x = true) : LateT Shun sz e (t ++ MemOp.ofEvents i fn pos es) := by
  have none : ∀ op ∈ MemOp.ofEvents i fn pos es, op.act.touch? = none ∧ op.g = i := fun op hop => by
    obtain ⟨ev, he, rfl⟩ := Go.Conc.mem_ofEvents hop
    exact ⟨touch_mute (hm ev he), rfl⟩
  refine ⟨h.quiet.app fun op hop x hx _ => (by rw [(none op hop).1] at hx; cases hx), fun op hop => ?_, fun op hop x hx => ?_⟩
  · rcases Array.mem_append.1 hop with h1 | h1
    · exact h.gs op h1
    · rw [(none op h1).2]; exact hi
  · rcases Array.mem_append.1 hop with h1 | h1
    · exact h.low op h1 x hx
    · rw [(none op h1).1] at hx; cases hx

/-- What a step of goroutine 0's may do behind a join. -/
def DM (Shun : Loc → Prop) (n : Nat) (w : World) (es : Array Event) : Prop := n ≤ w.heap.size ∧ ∀ e ∈ es, EvM Shun e ∧ ∀ x, (MemAct.ofEvent e).touch? = some x → ∀ ad, x.loc = .cell ad → ad.block < w.heap.size

/-- One step of such a machine: goroutine 0's, or a leaver's. -/
theorem one_beside {gs : Array Goroutine} {a : Goroutine} {w : World} {sl : Option (Nat × Nat)} {t : Trace} {q : Nat → Nat} {e : Nat} (h0 : gs[0]? = some a) (hrun : a.status = .running) (hB : Bes P Shun e gs w t q) :
    ∃ d sl', stepT P (crowd gs w sl) = runT P (crowd gs (w.at d) sl') 0 ∨
      ∃ gs' ops q', stepT P (crowd gs w sl) = (.next (crowd gs' (w.at d) sl'), ops) ∧ gs'[0]? = some a ∧ Bes P Shun e gs' w (t ++ ops) q' ∧ sumTo gs'.size q' < sumTo gs.size q := by
  obtain ⟨hsz, hL, ⟨B, hP⟩, hT⟩ := hB
  have haw : ∀ g ∈ gs, awake g := fun g hg => by
    obtain ⟨i, hi⟩ := Array.mem_iff_getElem?.1 hg
    cases i with
    | zero => rw [h0] at hi; cases hi; exact awake_of (.inl hrun)
    | succ i => exact awake_of ((hL.old (i + 1) g (by omega) hi).status.elim .inl fun x => .inr (.inr x))
  obtain ⟨i, g, d, sl', hi, hg, hst⟩ := crowd_pick (P := P) (w := w) (sl := sl) haw ⟨0, a, h0, hrun⟩
  refine ⟨d, sl', ?_⟩
  cases i with
  | zero => exact .inl hst
  | succ i =>
    refine .inr ?_
    have hq := hL.old (i + 1) g (by omega) hi
    have hlt : i + 1 < gs.size := (Array.getElem?_eq_some_iff.1 hi).1
    cases hqi : q (i + 1) with
    | zero => rw [hqi] at hq; rw [hq.1] at hg; cases hg
    | succ k =>
      rw [hqi] at hq
      rcases hq with ⟨hf, _⟩ | ⟨_, g', es, hm, hstp, hq'⟩
      · rw [hf] at hg; cases hg
      have hrunT := runT_crowd_go (P := P) (sl := sl') (i := i + 1) hi (by rw [show (i + 1 == 0) = false from rfl]; exact hstp (w.at d))
      have others : ∀ j, j ≠ i + 1 → Deaf (t ++ MemOp.ofEvents (i + 1) g.frame.fn g.frame.place es) j = Deaf t j := fun j hj => Deaf_other t (g' := i + 1) (fun e => hj e.symm) _ (fun op hop => by obtain ⟨e, _, rfl⟩ := Go.Conc.mem_ofEvents hop; rfl)
      refine ⟨_, _, upd q (i + 1) k, hst.trans hrunT, ?_, ⟨by simpa using hsz, ⟨fun j x hj hx => ?_, fun j hj => ?_⟩, ⟨B, hP.mute (by omega) hm⟩, LateT.mute hT (by omega) hm⟩, ?_⟩
      · rw [Array.getElem?_setIfInBounds_ne (by omega), Array.getElem?_map, h0]
        simp [woken_run hrun]
      · by_cases hji : j = i + 1
        · subst hji
          rw [Array.getElem?_setIfInBounds_self_of_lt (by simpa using hlt)] at hx
          cases hx
          rw [upd_same, Deaf_own]
          exact hq'
        · rw [Array.getElem?_setIfInBounds_ne (fun e => hji e.symm), Array.getElem?_map] at hx
          obtain ⟨y, hy, rfl⟩ := Option.map_eq_some_iff.1 hx
          have hqj := hL.old j y hj hy
          rw [woken_quitsD hqj, upd_ne q k hji, others j hji]
          exact hqj
      · have hj' : gs.size ≤ j := by simpa using hj
        rw [others j (by omega)]
        exact hL.above j hj'
      · have hsum : sumTo gs.size (upd q (i + 1) k) + (k + 1) = sumTo gs.size q + k := by
          have := sumTo_upd q k id hlt
          simpa [hqi] using this
        simp only [Array.size_setIfInBounds, Array.size_map]
        omega

/-- Beside leavers, to the stop; 'Fin' is what is to be shown of the machine. -/
theorem late (hpre : ∀ m m' ops t, stepT P m = (.next m', ops) → Fin m' (t ++ ops) → Fin m t) (hD : ∀ n w es, D n w es → DM Shun n w es) {e : Nat}
    (hstop : ∀ gs a w sl t q, gs[0]? = some a → (∀ d, Stop a (w.at d)) → Bes P Shun e gs w t q → Fin (crowd gs w sl) t) {a : Goroutine} {w : World} (hG : GoesI P D Stop a w) :
    ∀ (d : Nat) (gs : Array Goroutine) (sl : Option (Nat × Nat)) (t : Trace) (q : Nat → Nat), gs[0]? = some a → Bes P Shun e gs w t q → Fin (crowd gs (w.at d) sl) t := by
  induction hG with
  | stop h => exact fun d gs sl t q h0 hB => hstop gs _ _ sl t q h0 (fun d' => h d') ⟨hB.size, hB.old, hB.past, hB.late⟩
  | @step g w n u es hrun hs _ ih =>
    have own : ∀ (d : Nat) (gs : Array Goroutine) (sl : Option (Nat × Nat)) (t : Trace) (q : Nat → Nat) (m : Machine), gs[0]? = some g → Bes P Shun e gs w t q → stepT P m = runT P (crowd gs (w.at d) sl) 0 → Fin m t := by
      rintro d gs sl t q m h0 ⟨hsz, hL, ⟨B, hP⟩, hT⟩ h
      obtain ⟨h1, h2⟩ := hs d
      have h2 := hD _ _ _ h2
      have hrunT := runT_crowd_go (P := P) (sl := sl) (i := 0) h0 (show stepG P (0 == 0) g (w.at d) = _ from h1)
      obtain ⟨B', hB'⟩ := low_events (es d)
      have hlt : 0 < gs.size := (Array.getElem?_eq_some_iff.1 h0).1
      refine hpre _ _ _ _ (h.trans hrunT) ?_
      have := ih d (u d).drawn ((gs.map (woken P g (n d) (u d))).setIfInBounds 0 (n d)) sl (t ++ MemOp.ofEvents 0 g.frame.fn g.frame.place (es d)) q (by simp [hlt])
        ⟨by simpa using hsz, ⟨fun j x hj hx => by
          rw [Array.getElem?_setIfInBounds_ne (by omega), Array.getElem?_map] at hx
          obtain ⟨y, hy, rfl⟩ := Option.map_eq_some_iff.1 hx
          have hq := hL.old j y hj hy
          rw [woken_quitsD hq, Deaf_other t (g' := 0) (by omega) _ (fun op hop => by obtain ⟨e, _, rfl⟩ := Go.Conc.mem_ofEvents hop; rfl)]
          exact hq, fun j hj => by
          have hj' : gs.size ≤ j := by simpa using hj
          rw [Deaf_other t (g' := 0) (by omega) _ (fun op hop => by obtain ⟨e, _, rfl⟩ := Go.Conc.mem_ofEvents hop; rfl)]
          exact hL.above j hj'⟩,
        ⟨max B B', (hP.mono (Nat.le_max_left B B')).own fun x hx => ⟨(h2.2 x hx).1.1, (h2.2 x hx).1.2.1, (h2.2 x hx).1.2.2, MemAct.low_mono (Nat.le_max_right B B') (hB' x hx)⟩⟩, LateT.app0 hT h2.1 h2.2⟩
      exact this
    have key : ∀ (M d : Nat) (gs : Array Goroutine) (sl : Option (Nat × Nat)) (t : Trace) (q : Nat → Nat), sumTo gs.size q ≤ M → gs[0]? = some g → Bes P Shun e gs w t q → Fin (crowd gs (w.at d) sl) t := by
      intro M
      induction M with
      | zero =>
        intro d gs sl t q hM h0 hB
        obtain ⟨d', sl', h | ⟨gs', ops, q', _, _, _, h⟩⟩ := one_beside (w := w.at d) (sl := sl) h0 hrun (hB.at d)
        · exact own d' gs sl' t q _ h0 hB h
        · omega
      | succ M ihM =>
        intro d gs sl t q hM h0 hB
        obtain ⟨d', sl', h | ⟨gs', ops, q', h1, h2, h3, h5⟩⟩ := one_beside (w := w.at d) (sl := sl) h0 hrun (hB.at d)
        · exact own d' gs sl' t q _ h0 hB h
        · exact hpre _ _ _ _ h1 (ihM d' gs' sl' (t ++ ops) q' (by omega) h2 ⟨h3.size, h3.old, h3.past, h3.late⟩)
    exact fun d gs sl t q h0 hB => key _ d gs sl t q (Nat.le_refl _) h0 hB

/-- The run ends, and all is well. -/
def Ok (P : Program) (Post : Value → World → Prop) (m : Machine) (t : Trace) : Prop :=
  ∃ N last o w' t', runNT P (N + 1) m t = (.ended o w', t') ∧ runN P N m = .next last ∧ step P last = .ended o w' ∧ Good P Post last o w' t'
theorem ok_pre {Post : Value → World → Prop} (m m' : Machine) (ops : Array MemOp) (t : Trace) (h : stepT P m = (.next m', ops)) (h' : Ok P Post m' (t ++ ops)) : Ok P Post m t := by
  obtain ⟨N, last, o, w', t', h1, h2, h3, h4⟩ := h'
  refine ⟨N + 1, last, o, w', t', by rw [runNT_succ_next h]; exact h1, ?_, h3, h4⟩
  have : step P m = .next m' := by rw [step, h]
  rw [runN, this]
  exact h2

/-- Goroutine 0 stands at the step that ends the run. -/
def AtEndM (P : Program) (Shun : Loc → Prop) (Post : Value → World → Prop) (g : Goroutine) (w : World) : Prop :=
  g.status = .running ∧ ∃ v es, stepG P true g w = .ended (.done v) w es ∧ (∀ e ∈ es, EvM Shun e) ∧ Post v w

theorem ok_end {Post : Value → World → Prop} {gs : Array Goroutine} {a : Goroutine} {w : World} {sl : Option (Nat × Nat)} {t : Trace} {q : Nat → Nat} (h0 : gs[0]? = some a) (es : Array Event) (hes : ∀ e ∈ es, EvM Shun e) (hrun : a.status = .running)
    (h : ∀ d, ∃ v, stepG P true a (w.at d) = .ended (.done v) (w.at d) es ∧ Post v (w.at d)) {e : Nat} (hB : Bes P Shun e gs w t q) : Ok P Post (crowd gs w sl) t := by
  obtain ⟨_, hL, ⟨B, hP⟩, _⟩ := hB
  obtain ⟨B', hB'⟩ := low_events es
  refine beside_ends (P := P) (Shun := Shun) (B := max B B') (D := fun _ _ _ => False) (n := 0) (fun _ _ _ x => x.elim) h0 hL (hP.mono (Nat.le_max_left _ _)) ?_
  rintro w₁ ⟨d, rfl⟩
  obtain ⟨v, h1, h2⟩ := h d
  exact ⟨hrun, v, es, h1, fun e he => ⟨(hes e he).1, (hes e he).2.1, (hes e he).2.2, MemAct.low_mono (Nat.le_max_right B B') (hB' e he)⟩, h2⟩
end

section
variable [Payload] [OldG] [Out0]
variable {P : Program} {ty : TypeId} {Wg C n B : Nat} {M : Nat → Prop} {WP : Nat → Value → World → Prop} {K : List Nat → Goroutine → World → Prop} {N : Nat} {Fin : Machine → Trace → Prop} {t : Trace}

theorem fork_stepF [OldE] (hb : Bears Wg C n B M WP K) (hN2 : N < 2147483648)
    (hE : ∀ ids gs a W l sl t q, gs[0]? = some a → W.output = Out0.o0 → W.os = Out0.os0 → (∃ st sm, WgAt ty Wg W st sm) → K ids a (gw W l) → PayAt C n W → (∀ x ∈ ids, ∃ v l', Has C x v W ∧ WP x v (gw W l') ∧ ∀ b ∈ l', B ≤ b) → Bes P (ShO Wg) N gs W t q → Fin (crowd gs W sl) t) : ∀ μ m t, Iv P ty Wg C n B M WP K N μ m t →
    Fin m t ∨ (∃ m' ops μ', stepT P m = (.next m', ops) ∧ Lt2 μ' μ ∧ Iv P ty Wg C n B M WP K N μ' m' (t ++ ops)) := by
  rintro μ m t h
  obtain ⟨gs, W, sl, j, D, ix, ow, tag, r, f0, d0, a, st, sm, l0, ids, rfl, ha, hms, hcm, hwg, hmode, hacq, hi1, hi2, hN, rfl⟩ := h
  have hpd := hms.pend_le
  have go : (tag = .ret → ∃ m' gT, f0 = m' + 1 ∧ (∀ w₁, RL ty Wg W w₁ → ∃ g' w' es, stepG P true a w₁ = .go g' w' es ∧ DC0 w₁ w' es ∧ Goes P true (RL ty Wg) DC0 (AEnd gT) m' g' w') ∧ K ids gT (gw W l0) ∧ d0 = 0) →
      ∃ m' ops μ', stepT P (crowd gs W sl) = (.next m', ops) ∧ Lt2 μ' (phi N (Vc j D) tag + Ssum j D, f0 + 2 * Fsum j D) ∧ Iv P ty Wg C n B M WP K N μ' m' (t ++ ops) := by
    intro hret
    obtain ⟨i, g, d, sl', hg, hrun, hstep⟩ := crowd_pick (P := P) (w := W) (sl := sl) (all_wake ha hms hcm) (some_runs ha hms hcm hmode)
    rw [hstep]
    have hl0 : ∀ b ∈ l0, b ∉ ([] : List Nat) ∧ b < W.heap.size ∧ b ≠ C ∧ b ≠ Wg := fun b hb' => ⟨by simp, (hcm.gm.own0 b hb').2, by have := (hcm.gm.own0 b hb').1; have := hcm.gm.hC; omega, by have := (hcm.gm.own0 b hb').1; have := hcm.gm.hW; omega⟩
    have hch : Chg ty Wg C n [] (fun _ => False) W (W.at d) := Chg.at W d
    have hms' := hms.rely hb.k hch hcm.gm.hB (by simp) hl0 (fun _ => False.elim)
    have hcm' := hcm.at hb.wp d
    have hwg' : WgAt ty Wg (W.at d) st sm := hwg
    cases i with
    | zero =>
      rw [ha] at hg; cases hg
      have giv : Giv P ty Wg C n B M WP K N j r gs (W.at d) t D ix ow l0 ids d0 a st sm := ⟨hb, hN2, ha, hcm', hwg', hi1, hi2, hN⟩
      by_cases hr : tag = .ret
      · obtain ⟨m', gT, rfl, hs, hK, rfl⟩ := hret hr
        subst hr
        have hr0 : r = 0 := by cases hms; rfl
        subst hr0
        obtain ⟨a', w', es, hgo, ⟨rfl, rfl⟩, hg'⟩ := hs (W.at d) hch.live
        have hK' : K ids gT (gw (W.at d) l0) := hb.k _ _ _ _ (hch.ro hcm.gm.hB (by simp) hl0 (fun _ _ => id)) hK
        exact giv.idle (sl := sl') (f0 := m' + 1) hgo (.ret hg' hK') hmode hacq (by omega)
      · rcases stepM (sl := sl') giv hms' hmode hacq hrun with ⟨h1, _⟩ | h
        · exact absurd h1 hr
        · exact h
    | succ i =>
      have hi : i < j := by have := (Array.getElem?_eq_some_iff.1 hg).1; rw [hcm.size] at this; omega
      rcases Nat.lt_or_ge i OldE.el with he | he
      · exact stepE (sl := sl') ha hms' hcm' hwg' hmode hacq hi1 hi2 hN he hg hrun
      · exact stepW (sl := sl') hb hN2 ha hms' hcm' hwg' hmode hacq hi1 hi2 hN (by omega) he hi hg hrun
  by_cases hr : tag = .ret
  · subst hr
    cases hms with
    | @ret m _ gT _ hG hK =>
      rcases Goes.cases hG with hstop | ⟨m', rfl, hs⟩
      · obtain ⟨_, rfl⟩ := hstop W (rl_refl ty Wg W)
        obtain ⟨hq, rfl, rfl⟩ := hmode.fin_inv trivial
        obtain ⟨B₀, hB₀⟩ := low_bound_all t
        have hres : ∀ x ∈ ids, ∃ v l', Has C x v W ∧ WP x v (gw W l') ∧ ∀ b ∈ l', B ≤ b := by
          intro x hx
          obtain ⟨i, he, hi, rfl⟩ := hi2 x hx
          obtain ⟨g, hg, hs⟩ := hcm.wk i he hi
          rw [hq i hi] at hs
          cases hs with
          | lib _ _ h3 h4 => exact ⟨_, _, h4 (by omega), h3, fun b hb => (hcm.gm.own i hi b hb).1⟩
        exact .inl (hE ids gs a W l0 sl t _ ha hcm.out hcm.os ⟨_, _, hwg⟩ hK hcm.pay hres ⟨by rw [hcm.size]; omega, join_leavers hcm hq, ⟨B₀, join_past hcm (hacq rfl) hB₀⟩, by have := join_late hcm; rwa [show j = N by omega] at this⟩)
      · exact .inr (go fun _ => ⟨m', gT, rfl, hs, hK, rfl⟩)
  · exact .inr (go fun h => absurd h hr)

theorem fork_fin [OldE] (hpre : ∀ m m' ops t, stepT P m = (.next m', ops) → Fin m' (t ++ ops) → Fin m t) (hb : Bears Wg C n B M WP K) (hN2 : N < 2147483648)
    (hE : ∀ ids gs a W l sl t q, gs[0]? = some a → W.output = Out0.o0 → W.os = Out0.os0 → (∃ st sm, WgAt ty Wg W st sm) → K ids a (gw W l) → PayAt C n W → (∀ x ∈ ids, ∃ v l', Has C x v W ∧ WP x v (gw W l') ∧ ∀ b ∈ l', B ≤ b) → Bes P (ShO Wg) N gs W t q → Fin (crowd gs W sl) t) : ∀ μ m t, Iv P ty Wg C n B M WP K N μ m t → Fin m t := by
  intro μ
  refine (Prod.lex Nat.lt_wfRel Nat.lt_wfRel).wf.induction (C := fun μ => ∀ m t, Iv P ty Wg C n B M WP K N μ m t → Fin m t) μ fun μ ih m t h => ?_
  rcases fork_stepF hb hN2 hE μ m t h with h1 | ⟨m', ops, μ', h1, h2, h3⟩
  · exact h1
  · exact hpre _ _ _ _ h1 (ih μ' h2 m' _ h3)

/-- ████ A fork, beside those that leave: from the first go statement to the join. -/
theorem fork_at (hpre : ∀ m m' ops t, stepT P m = (.next m', ops) → Fin m' (t ++ ops) → Fin m t) {gs : Array Goroutine} {a : Goroutine} {W : World} {sl : Option (Nat × Nat)} {q : Nat → Nat} {e : Nat} (h0 : gs[0]? = some a) (hB : Bes P (ShO Wg) e gs W t q)
    (hold : ∀ b, OldG.old b → b < B ∧ b ≠ C) (hW : Wg < B) (hC : C < B) (hCW : C ≠ Wg) (hBs : B ≤ W.heap.size) (hwg : WgAt ty Wg W 0 0) (hpay : PayAt C n W) (hsp : Sp P ty Wg C n B M WP K N [] a (gw W []))
    (hb : Bears Wg C n B M WP K) (hN2 : e + N < 2147483648) (ho : W.output = Out0.o0) (hos : W.os = Out0.os0)
    (hE : ∀ ids gs a W l sl t q, gs[0]? = some a → W.output = Out0.o0 → W.os = Out0.os0 → (∃ st sm, WgAt ty Wg W st sm) → K ids a (gw W l) → PayAt C n W → (∀ x ∈ ids, ∃ v l', Has C x v W ∧ WP x v (gw W l') ∧ ∀ b ∈ l', B ≤ b) → Bes P (ShO Wg) (e + N) gs W t q → Fin (crowd gs W sl) t) : Fin (crowd gs W sl) t := by
  letI : OldE := ⟨e, t.size⟩
  obtain ⟨Bp, hP⟩ := hB.past
  obtain ⟨μ, hI⟩ := iv_start2 (sl := sl) h0 hB.size hB.old hP hB.late rfl hold hW hC hCW hBs hwg hpay hsp ho hos
  exact fork_fin hpre hb hN2 hE μ _ _ hI

omit [Payload] [OldG] [Out0] in
/-- Goroutine 0 alone. -/
theorem bes_solo {a : Goroutine} {W : World} {Shun : Loc → Prop} (h0 : ∀ op ∈ t, op.g = 0) (hS : ∀ op ∈ t, ∀ x, op.act.touch? = some x → ¬ Shun x.loc) (hlow : ∀ op ∈ t, ∀ x, op.act.touch? = some x → ∀ ad, x.loc = .cell ad → ad.block < W.heap.size) (hd : Deaf t 0 = 0) : Bes P Shun 0 #[a] W t (fun _ => 0) := by
  refine ⟨rfl, ⟨fun i g hi hg => ?_, fun i hi => ?_⟩, ?_, ⟨fun i op x hi hx hs => absurd hs (hS op (Array.mem_of_getElem? hi) x hx), fun op hop => Nat.le_of_eq (h0 op hop), fun op hop x hx => ⟨hlow op hop x hx, fun h => absurd (h0 op hop) h⟩⟩⟩
  · have := (Array.getElem?_eq_some_iff.1 hg).1
    simp at this
    omega
  · exact Deaf_absent fun a op ha e => by have := h0 op (Array.mem_of_getElem? ha); simp at hi; omega
  · obtain ⟨B₀, hB₀⟩ := low_bound_all t
    refine ⟨B₀, fun said => ?_, fun i x hx _ => .inl ?_, fun i g hg hne _ => ?_, hd, hB₀⟩
    · have := noRace_append (said := said) (t := #[]) (u := t) (g := 0) (by rintro ⟨i, j, _, ⟨a, b, ha, _⟩, _⟩; simp [Trace.act?] at ha) h0 (fun i a ha => by simp [touchAt, Trace.act?] at ha)
      simpa using this
    · obtain ⟨op, ho, _⟩ := touch_of hx
      have := knows_own ho
      rwa [h0 op (Array.mem_of_getElem? ho)] at this
    · obtain ⟨op, ho, rfl⟩ := Option.map_eq_some_iff.1 hg
      exact absurd (h0 op (Array.mem_of_getElem? ho)) hne

/-- ████ From the call to the return: alone up to the fork, then beside the workers, then beside those that leave. -/
theorem wholeI {Post : Value → World → Prop} {g a : Goroutine} {w W : World} (hOld : ∀ b, ¬ OldG.old b) (hG : Gets P (· = Wg) g w a W) (hW : Wg < B) (hC : C < B) (hCW : C ≠ Wg) (hB : B ≤ W.heap.size) (hwg : WgAt ty Wg W 0 0) (hpay : PayAt C n W) (hsp : Sp P ty Wg C n B M WP K N [] a (gw W []))
    (hb : Bears Wg C n B M WP K) (hN2 : N < 2147483648)
    (ho : W.output = Out0.o0) (hos : W.os = Out0.os0)
    (hE : ∀ ids gs a W l sl t q, gs[0]? = some a → W.output = Out0.o0 → W.os = Out0.os0 → (∃ st sm, WgAt ty Wg W st sm) → K ids a (gw W l) → PayAt C n W → (∀ x ∈ ids, ∃ v l', Has C x v W ∧ WP x v (gw W l') ∧ ∀ b ∈ l', B ≤ b) → Bes P (ShO Wg) N gs W t q → Ok P Post (crowd gs W sl) t) : Ok P Post (solo g w) #[] := by
  obtain ⟨k, u, h1, h2⟩ := gets_run hG #[]
  rw [Array.empty_append] at h1
  have hBs : Bes P (ShO Wg) 0 #[a] W u (fun _ => 0) := bes_solo (fun op hop => (h2 op hop).1) (fun op hop x hx h => h.elim ((opP_touch (h2 op hop)).1 x hx) (fun ⟨b, _, hb⟩ => hOld _ hb)) (fun op hop => (opP_touch (h2 op hop)).2.1)
    (by
      have := Deaf_still #[] 0 u fun op hop => ⟨fun hm => (by rcases (opP_touch (h2 op hop)).2.2 _ hm with h | ⟨_, h⟩ <;> cases h), fun hm => (by rcases (opP_touch (h2 op hop)).2.2 _ hm with h | ⟨_, h⟩ <;> cases h)⟩
      rw [Array.empty_append] at this
      rw [this]; rfl)
  obtain ⟨k2, last, o, w', t', r1, r2, r3, r4⟩ : Ok P Post (crowd #[a] W none) u :=
    fork_at ok_pre rfl hBs (fun b hb => absurd hb (hOld b)) hW hC hCW hB hwg hpay hsp hb (by omega) ho hos (by rw [Nat.zero_add]; exact hE)
  refine ⟨k + k2, last, o, w', t', ?_, ?_, r3, r4⟩
  · rw [Nat.add_assoc, runNT_add, h1]
    exact r1
  · have : runN P k (solo g w) = .next (solo a W) := by rw [← runNT_fst P k _ #[], h1]
    rw [runN_add, this]
    exact r2

omit [Payload] [OldG] [Out0] in
/-- More places may be shunned, if nobody has touched them. -/
theorem Bes.more {Shun Shun' : Loc → Prop} {gs : Array Goroutine} {W : World} {q : Nat → Nat} {e : Nat} (h : Bes P Shun e gs W t q) (h1 : ∀ l, Shun l → Shun' l) (h2 : ∀ l, Shun' l → Shun l ∨ ∃ a : Addr, l = .cell a ∧ W.heap.size ≤ a.block) : Bes P Shun' e gs W t q := by
  obtain ⟨h3, h4, ⟨B, hP⟩, hT⟩ := h
  refine ⟨h3, h4, ⟨B, hP.clean, fun i x hx hm => (hP.known i x hx hm).imp id fun y => ⟨h1 _ y.1, y.2⟩, hP.over, hP.hears, hP.seen⟩, ⟨fun i op x hi hx hs => ?_, hT.gs, hT.low⟩⟩
  rcases h2 _ hs with h | ⟨a, ha, hl⟩
  · exact hT.quiet i op x hi hx h
  · have := (hT.low op (Array.mem_of_getElem? hi) x hx).1 a ha
    omega

omit [Payload] [OldG] [Out0] in
/-- Behind the last join, to the return. -/
theorem ok_late {Post : Value → World → Prop} {Shun : Loc → Prop} {gs : Array Goroutine} {a : Goroutine} {W : World} {sl : Option (Nat × Nat)} {q : Nat → Nat} {e : Nat} (h0 : gs[0]? = some a) (hB : Bes P Shun e gs W t q)
    (hE : GoesI P (DM Shun) (fun a w => a.status = .running ∧ ∃ es, (∀ e ∈ es, EvM Shun e) ∧ ∀ d, ∃ v, stepG P true a (w.at d) = .ended (.done v) (w.at d) es ∧ Post v (w.at d)) a W) : Ok P Post (crowd gs W sl) t :=
  late (Fin := Ok P Post) ok_pre (fun _ _ _ h => h) (fun _ _ w _ _ _ h0 hst hB => let ⟨hrun, es, h1, h2⟩ := hst w.drawn; ok_end h0 es h1 hrun h2 hB) hE W.drawn gs sl t q h0 hB
end
#print axioms wholeI
end Go.Lf

/-
  Walks through a function of whose code some pieces are run alone: ahead of the fork, and behind the join.
-/
namespace Go.Lf
open Go.Conc

section
variable {P : Program} {F : FuncId → Bool} {X : Nat → Prop} {Y : Nat → Option Obj} {D : Nat → World → Array Event → Prop} {Stop : Goroutine → World → Prop} {Φ : Goroutine → World → Prop} {f : FuncId} {k : List Item} {cs : List Frame}

/-- Ahead of the fork: from here Φ is reached. -/
def Rea (P : Program) (Y : Nat → Option Obj) (Φ : Goroutine → World → Prop) (f : FuncId) (cs : List Frame) (k : List Item) (a : Act) (v : World) : Prop :=
  ∀ w, Sim NoX Y w v → ∃ g' w', Φ g' w' ∧ Gets P NoX (G ((base f).at a k) cs) w g' w'

/-- Behind the join. -/
def ReaI (P : Program) (X : Nat → Prop) (Y : Nat → Option Obj) (D : Nat → World → Array Event → Prop) (Stop : Goroutine → World → Prop) (f : FuncId) (cs : List Frame) (k : List Item) (a : Act) (v : World) : Prop :=
  ∀ w, SimT X Y w v → GoesI P D Stop (G ((base f).at a k) cs) w

theorem reach_code (hF : GoodF P F) {c : Code} (hc : okCode P F c = true) {a : Act} {v : World} (ha : a.defers = []) (hf : ∃ fn, P.funcs[f]? = some fn) (h : c.wp P (fun e a' v' => e = .normal ∧ a'.defers = [] ∧ Rea P Y Φ f cs k a' v') a v) : Rea P Y Φ f cs (.code c :: k) a v := by
  intro w hs
  obtain ⟨a', v', ⟨_, _, h1⟩, h2⟩ := seg hF hc h (fun _ _ _ x => ⟨x.1, x.2.1⟩) ha hf hs
  obtain ⟨w2, hs2, hG⟩ := h2 k cs
  obtain ⟨g', w', h3, h4⟩ := h1 w2 hs2
  exact ⟨g', w', h3, hG.trans h4⟩
theorem reach_step {a : Act} {v : World} {k k' : List Item} (h : ∀ w, stepG P true (G ((base f).at a k) cs) w = .go (G ((base f).at a k') cs) w #[]) (hr : Rea P Y Φ f cs k' a v) : Rea P Y Φ f cs k a v := by
  intro w hs
  obtain ⟨g', w', h3, h4⟩ := hr w hs
  exact ⟨g', w', h3, .step rfl (h w) (fun e he => by simp at he) (Nat.le_refl _) h4⟩
theorem reach_split {c d : Code} {a : Act} {v : World} (ha : a.defers = []) (hr : Rea P Y Φ f cs (.code c :: .code d :: k) a v) : Rea P Y Φ f cs (.code (.seq c d) :: k) a v := by
  refine reach_step (fun w => ?_) hr
  obtain ⟨t, d⟩ := a
  subst ha
  rfl
theorem reach_seq (hF : GoodF P F) {c d : Code} (hc : okCode P F c = true) {a : Act} {v : World} (ha : a.defers = []) (hf : ∃ fn, P.funcs[f]? = some fn) (h : c.wp P (fun e a' v' => e = .normal ∧ a'.defers = [] ∧ Rea P Y Φ f cs (.code d :: k) a' v') a v) : Rea P Y Φ f cs (.code (.seq c d) :: k) a v :=
  reach_split ha (reach_code hF hc ha hf h)

theorem reach_go (hF : GoodF P F) {c d : Code} (hc : okCode P F c = true) {a : Act} {v : World} (ha : a.defers = []) (hf : ∃ fn, P.funcs[f]? = some fn) (h : ∀ R : Act → World → Prop, (∀ a' v', Rea P Y Φ f cs (.code d :: k) a' v' → R a' v') → c.wp P (fun e a' v' => e = .normal ∧ a'.defers = [] ∧ R a' v') a v) : Rea P Y Φ f cs (.code (.seq c d) :: k) a v :=
  reach_seq hF hc ha hf (h _ fun _ _ x => x)

theorem reachI_code (hF : GoodF P F) (hD : Dok X D) {c : Code} (hc : okCode P F c = true) {a : Act} {v : World} (ha : a.defers = []) (hf : ∃ fn, P.funcs[f]? = some fn) (h : ∀ τ d, c.wp P (fun e a' v' => e = .normal ∧ a'.defers = [] ∧ ReaI P X Y D Stop f cs k a' v') a { v with tape := τ, drawn := d }) : ReaI P X Y D Stop f cs (.code c :: k) a v :=
  fun _ hs => segI hF hD hc h (fun _ _ _ x => ⟨x.1, x.2.1⟩) ha hf hs fun _ _ w' hq hs' => hq.2.2 w' hs'
theorem reachI_step (hD : Dok X D) {a : Act} {v : World} {k k' : List Item} (h : ∀ w, stepG P true (G ((base f).at a k) cs) w = .go (G ((base f).at a k') cs) w #[]) (hr : ReaI P X Y D Stop f cs k' a v) : ReaI P X Y D Stop f cs k a v :=
  fun w hs => .next rfl fun d => ⟨_, _, _, h (w.at d), hD.nil (Nat.le_refl _), hr _ (hs.at d)⟩
theorem reachI_split (hD : Dok X D) {c d : Code} {a : Act} {v : World} (ha : a.defers = []) (hr : ReaI P X Y D Stop f cs (.code c :: .code d :: k) a v) : ReaI P X Y D Stop f cs (.code (.seq c d) :: k) a v := by
  refine reachI_step hD (fun w => ?_) hr
  obtain ⟨t, d⟩ := a
  subst ha
  rfl
theorem reachI_seq (hF : GoodF P F) (hD : Dok X D) {c d : Code} (hc : okCode P F c = true) {a : Act} {v : World} (ha : a.defers = []) (hf : ∃ fn, P.funcs[f]? = some fn) (h : ∀ τ d', c.wp P (fun e a' v' => e = .normal ∧ a'.defers = [] ∧ ReaI P X Y D Stop f cs (.code d :: k) a' v') a { v with tape := τ, drawn := d' }) : ReaI P X Y D Stop f cs (.code (.seq c d) :: k) a v :=
  reachI_split hD ha (reachI_code hF hD hc ha hf h)

theorem reachI_go (hF : GoodF P F) (hD : Dok X D) {c d : Code} (hc : okCode P F c = true) {a : Act} {v : World} (ha : a.defers = []) (hf : ∃ fn, P.funcs[f]? = some fn) (h : ∀ R : Act → World → Prop, (∀ a' v', ReaI P X Y D Stop f cs (.code d :: k) a' v' → R a' v') → ∀ τ d', c.wp P (fun e a' v' => e = .normal ∧ a'.defers = [] ∧ R a' v') a { v with tape := τ, drawn := d' }) : ReaI P X Y D Stop f cs (.code (.seq c d) :: k) a v :=
  reachI_seq hF hD hc ha hf (h _ fun _ _ x => x)

/-- Own steps ahead of the fork. -/
def DE (w w' : World) (es : Array Event) : Prop := EvsP NoX w' es ∧ w.heap.size ≤ w'.heap.size
theorem gets_of_goes : ∀ (n : Nat) (g : Goroutine) (w : World), Goes P true Eq DE Φ n g w → ∃ g' w', Φ g' w' ∧ Gets P NoX g w g' w'
  | 0, g, w, h => ⟨g, w, h w rfl, .refl _ _⟩
  | n + 1, g, w, h => by
    rcases h with h | ⟨hs, h⟩
    · exact ⟨g, w, h w rfl, .refl _ _⟩
    · obtain ⟨g1, w1, es, hgo, hd, hg⟩ := goes_elim (h w rfl)
      obtain ⟨g', w', h1, h2⟩ := gets_of_goes n g1 w1 hg
      exact ⟨g', w', h1, .step hs hgo hd.1 hd.2 h2⟩
/-- Own steps behind the join. -/
theorem goesI_of_goes {Stop' : Goroutine → World → Prop} (hS : ∀ g w, Stop' g w → GoesI P D Stop g w) : ∀ (n : Nat) (g : Goroutine) (w : World), Goes P true AtRel (fun w => D w.heap.size) Stop' n g w → GoesI P D Stop g w
  | 0, g, w, h => by have := hS g w (h w (atRel_refl w)); exact this
  | n + 1, g, w, h => by
    rcases h with h | ⟨hs, h⟩
    · exact hS g w (h w (atRel_refl w))
    · refine .next hs fun d => ?_
      obtain ⟨g1, w1, es, hgo, hd, hg⟩ := goes_elim (h (w.at d) ⟨d, rfl⟩)
      exact ⟨g1, w1, es, hgo, hd, goesI_of_goes hS n g1 w1 hg⟩

/-- Facts of the lone world hold in the other. -/
theorem sim_block {w v : World} {b : Nat} {c : Array Value} {t : TypeId} {fr : Nat × Nat} (h : Sim NoX Y w v) (hb : v.heap[b]? = some (.cells c t fr)) : w.heap[b]? = some (.cells c t fr) := by
  cases hy : Y b with
  | none => rw [h.same b (fun x => x) hy]; exact hb
  | some o =>
    obtain ⟨o', _, h2, hg⟩ := h.gho b _ hy
    rw [hb] at h2
    cases h2
    rcases hg with ⟨_, _, _, h4⟩ | ⟨_, _, _, h4⟩ <;> cases h4
theorem sim_cell {w v : World} {a : Addr} {u : Value} (h : Sim X Y w v) (hc : v.cell? a = some u) : w.cell? a = some u := by
  obtain ⟨h1, h2, _⟩ := h.notX hc
  rw [h.cell h1 h2]
  exact hc
end
end Go.Lf

/-
  Single steps of such walks: an operation, a call, a return.
-/
namespace Go.Lf
open Go.Conc

section
variable {P : Program} {F : FuncId → Bool} {X : Nat → Prop} {Y : Nat → Option Obj} {D : Nat → World → Array Event → Prop} {Stop : Goroutine → World → Prop} {Φ : Goroutine → World → Prop} {f : FuncId} {k : List Item} {cs : List Frame} {a : Act} {v v' : World} {ops : Array Oper} {i : Nat} {rest : List Nat} {o : Oper} {u : Value}

theorem eval_func (a : Act) (g : FuncId) : a.eval (.func g) = .func (.func g) #[] #[] := rfl

/-- An operation's run, in the other world. -/
theorem op_run (hF : GoodF P F) (hok : okOp P F o = true) {x : Next} (hrun : (execOp a.eval o).run P v = .ok x v') {w : World} (hs : Sim X Y w v) (fn : FuncId) :
    ∃ w', (execOp a.eval o).run P w = .ok x w' ∧ Sim X Y w' v' ∧ w.heap.size ≤ w'.heap.size ∧ EvsP X w' (listed P fn a o w) := by
  obtain ⟨hpl, _⟩ := exec_ok hF (tmps := a.tmps) (ρ := a.eval) (eval_func a) (fun _ => rfl) InvS.nil hok
  obtain ⟨w', h1, h2, h3, h4⟩ := hpl.sim w v #[] x v' ((execOp a.eval o).events P v #[]) hs (by rw [Sem.runT_eq, hrun])
  rw [Sem.runT_eq, Prod.mk.injEq] at h1
  refine ⟨w', h1.1, h2, by rw [hs.size, h2.size]; exact h3, fun e he => ?_⟩
  unfold listed at he
  rw [h1.2] at he
  exact (h4 e (mem_seen he)).resolve_left (by simp)

theorem rea_region {id : Nat} (hr : Rea P Y Φ f cs (.inRegion ops (List.range ops.size) :: k) a v) : Rea P Y Φ f cs (.code (.region id ops false) :: k) a v := reach_step (fun _ => stepG_region) hr
theorem rea_end (hr : Rea P Y Φ f cs k a v) : Rea P Y Φ f cs (.inRegion ops [] :: k) a v := reach_step (fun _ => stepG_region_end) hr
theorem reaI_region {id : Nat} (hD : Dok X D) (hr : ReaI P X Y D Stop f cs (.inRegion ops (List.range ops.size) :: k) a v) : ReaI P X Y D Stop f cs (.code (.region id ops false) :: k) a v := reachI_step hD (fun _ => stepG_region) hr
theorem reaI_end (hD : Dok X D) (hr : ReaI P X Y D Stop f cs k a v) : ReaI P X Y D Stop f cs (.inRegion ops [] :: k) a v := reachI_step hD (fun _ => stepG_region_end) hr

theorem rea_op (hF : GoodF P F) (ho : ops[i]? = some o) (hw : Region.wanted o (yielded ops a.tmps) = true) (hok : okOp P F o = true) (hrun : (execOp a.eval o).run P v = .ok (.value u) v') (h : Rea P Y Φ f cs (.inRegion ops rest :: k) (a.put o.dst u) v') : Rea P Y Φ f cs (.inRegion ops (i :: rest) :: k) a v := by
  intro w hs
  obtain ⟨w', h1, h2, h3, h4⟩ := op_run hF hok hrun hs f
  obtain ⟨g', w2, h5, h6⟩ := h w' h2
  exact ⟨g', w2, h5, .step rfl (stepG_value (b := base f) ho hw (by intro h; cases h) h1) h4 h3 h6⟩
theorem reaI_op (hF : GoodF P F) (hD : Dok X D) (ho : ops[i]? = some o) (hw : Region.wanted o (yielded ops a.tmps) = true) (hok : okOp P F o = true) (hrun : ∀ τ d, ∃ v', (execOp a.eval o).run P { v with tape := τ, drawn := d } = .ok (.value u) v' ∧ ReaI P X Y D Stop f cs (.inRegion ops rest :: k) (a.put o.dst u) v') : ReaI P X Y D Stop f cs (.inRegion ops (i :: rest) :: k) a v := by
  intro w hs
  refine .next rfl fun d => ?_
  obtain ⟨v', h0, h⟩ := hrun (fun p => w.tape (d + p)) 0
  obtain ⟨w', h1, h2, h3, h4⟩ := op_run hF hok h0 (hs.re d 0 (fun p => w.tape (d + p)) fun i q => by simp) f
  exact ⟨_, _, _, stepG_value (b := base f) ho hw (by intro h; cases h) h1, hD _ _ _ h3 h4, h w' h2.t⟩

theorem rea_call {g : FuncId} {fn : Func} {c : Code} {args : Array Operand} {ats : Array TypeId} {vs : Array Value} {n : Nat} (ho : ops[i]? = some o) (hw : Region.wanted o (yielded ops a.tmps) = true) (hop : o.op = .call { callee := .value (.func g), args, argTypes := ats })
    (hf : P.funcs[g]? = some fn) (hname : (fn.name == "runtime.NumGoroutine") = false) (hb : fn.body = some c) (hvs : args.map a.eval = vs) (hn : fn.ntmps - vs.size = n)
    (h : Rea P Y Φ g ((base f).at a (.inRegion ops (i :: rest) :: k) :: cs) [.code c] { tmps := vs ++ Array.replicate n undef, defers := [] } v) : Rea P Y Φ f cs (.inRegion ops (i :: rest) :: k) a v := by
  subst hvs hn
  intro w hs
  obtain ⟨g', w2, h5, h6⟩ := h w hs
  obtain ⟨g1, w1, es, hgo, rfl, rfl, rfl⟩ := goes_elim (goes_call (P := P) (main := true) (b := base f) (a := a) (k := k) (cs := cs) (w := w) (rest := rest) (K := fun g1 w1 es => g1 = G ((base g).at { tmps := args.map a.eval ++ Array.replicate (fn.ntmps - (args.map a.eval).size) undef, defers := [] } [.code c]) ((base f).at a (.inRegion ops (i :: rest) :: k) :: cs) ∧ w1 = w ∧ es = #[]) ho hw (by intro h; cases h) hop hf hname hb ⟨rfl, rfl, rfl⟩)
  exact ⟨g', w2, h5, .step rfl hgo (fun e he => by simp at he) (Nat.le_refl _) h6⟩

/-- A return to a caller. -/
theorem reaI_ret (hD : Dok X D) (ha : a.defers = []) {fn : Func} (hf : P.funcs[f]? = some fn) {c : Frame} {y : Value} (hres : ∀ τ d, (results fn a.tmps).run P { v with tape := τ, drawn := d } = .ok y { v with tape := τ, drawn := d })
    (h : ∀ w, SimT X Y w v → GoesI P D Stop (G (c.finish y) cs) w) : ReaI P X Y D Stop f (c :: cs) [.code .ret] a v := by
  obtain ⟨tmps, d0⟩ := a
  subst ha
  intro w hs
  refine .next rfl fun d => ⟨G { (base f).at ⟨tmps, []⟩ [.code .ret] with mode := .returning } (c :: cs), w.at d, #[], rfl, hD.nil (Nat.le_refl _), ?_⟩
  refine .next rfl fun d' => ?_
  have hs' : Sim X Y (w.at d') { v with tape := fun p => w.tape (d' + p), drawn := 0 } := hs.re d' 0 _ fun i q => by simp
  have hr := hres (fun p => w.tape (d' + p)) 0
  obtain ⟨w', h1, h2, h3, h4⟩ := sim_run (results fn tmps) (w.at d') _ #[] y _ ((results fn tmps).events P { v with tape := fun p => w.tape (d' + p), drawn := 0 } #[]) (plain_results fn tmps) hs' (by rw [Sem.runT_eq, hr])
  refine ⟨G (c.finish y) cs, w', seen P f ((results fn tmps).events P { v with tape := fun p => w.tape (d' + p), drawn := 0 } #[]), ?_, hD _ w' _ (Nat.le_of_eq (hs'.size.trans h2.size.symm)) (fun e he => (h4 e (mem_seen he)).resolve_left (by simp)), h w' ⟨_, _, h2⟩⟩
  have eA : ∀ c2 r2 u, stepG P true (G { (base f).at ⟨tmps, []⟩ [.code .ret] with mode := .returning } (c2 :: r2)) u =
      GStep.after (seen P f ((results fn tmps).runT P u #[]).2) (match ((results fn tmps).runT P u #[]).1 with
        | .ok v w => doReturn P true { (base f).at ⟨tmps, []⟩ [.code .ret] with mode := .returning } (c2 :: r2) none v w
        | .halt (.stuck s) w => .ended (.stuck s (Frame.pos P { (base f).at ⟨tmps, []⟩ [.code .ret] with mode := .returning })) w
        | .halt _ w => .ended (.stuck "return: the result variables cannot be read" (Frame.pos P { (base f).at ⟨tmps, []⟩ [.code .ret] with mode := .returning })) w) := fun c2 r2 u => by
    simp only [G, stepG, unwind, base, Frame.at, hf]
    rfl
  show stepG P true _ (w.at d') = _
  rw [eA, h1]
  simp only [doReturn, GStep.after]
  rfl

/-- The last return. -/
theorem reaI_done (hD0 : Dok X D) (ha : a.defers = []) {fn : Func} (hf : P.funcs[f]? = some fn) (hin : P.inits.idxOf? f = none) {y : Value} (hres : ∀ u, (results fn a.tmps).runT P u #[] = (.ok y u, #[]))
    (h : ∀ w d, SimT X Y w v → (∀ d', stepG P true (G { (base f).at a [.code .ret] with mode := .returning } []) (w.at d') = .ended (.done y) (w.at d') #[]) → Stop (G { (base f).at a [.code .ret] with mode := .returning } []) (w.at d)) : ReaI P X Y D Stop f [] [.code .ret] a v := by
  obtain ⟨tmps, d0⟩ := a
  subst ha
  intro w hs
  refine .next rfl fun d => ⟨G { (base f).at ⟨tmps, []⟩ [.code .ret] with mode := .returning } [], w.at d, #[], rfl, hD0.nil (Nat.le_refl _), ?_⟩
  have eA : ∀ u, stepG P true (G { (base f).at ⟨tmps, []⟩ [.code .ret] with mode := .returning } []) u = .ended (.done y) u #[] := fun u => by
    have := hres u
    dsimp only at this
    simp only [G, stepG, unwind, base, Frame.at, hf, this, seen_none, doReturn, hin, Bool.not_true, Bool.false_eq_true, if_false, GStep.after, Array.append_empty]
  exact .stop fun d' => h w d' hs fun d'' => eA _
end
end Go.Lf

/-
  A run that starts no goroutine.
-/
namespace Go.Lf
open Go.Conc

theorem ok_of_calls {P : Program} {f : FuncId} {args : Array Value} {w : World} {Post : Value → World → Prop} (noInit : P.inits.idxOf? f = none) (h : Calls P f args w fun e w' => ∃ v, e = .returned v ∧ Post v w') : Ok P Post (solo (G (Frame.enter P f args .normal) []) w) #[] := by
  obtain ⟨n, v, w', fr, hn, hend, hp⟩ := (h.mono (R' := fun | .returned v, w' => Post v w' | _, _ => False) (by
    rintro e w' ⟨v, rfl, hp⟩
    exact hp)).done_lone noInit
  have h2 : runN P n (solo (G (Frame.enter P f args .normal) []) w) = .next (lone fr [] w') := hn
  have h3 : runN P (n + 1) (solo (G (Frame.enter P f args .normal) []) w) = .ended (.done v) w' := hend
  refine ⟨n, lone fr [] w', .done v, w', (runNT P (n + 1) (solo (G (Frame.enter P f args .normal) []) w) #[]).2, ?_, h2, step_of_runs h2 h3, v, rfl, hp, fun said => (no_race_of_lone P n _ _ h2 (by simp [lone]) rfl).2, handedOver_of_lone h2, onlyLeaving_of_quiet (quiet_lone _ _ _), (alone_of_lone (w' := w') h2).2.2⟩
  exact Prod.ext (by rw [runNT_fst, h3]) rfl
end Go.Lf

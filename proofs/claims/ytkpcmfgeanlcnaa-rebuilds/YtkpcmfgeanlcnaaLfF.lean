/-
  A piece of code, run alone to its end: the same with whatever to do behind it, whoever called, in a world that is like it; and what it lists.
-/
import Derived.Test.YtkpcmfgeanlcnaaLfE
import Derived.Conc.Own3
namespace Go.Lf
open Go.Conc

section
variable {P : Program} {F : FuncId → Bool} {X : Nat → Prop} {Y : Nat → Option Obj}

theorem plain_results (fn : Func) (tmps : Array Value) : Plain P (results fn tmps) := by
  unfold results
  refine plain_bind (plain_mapM (fun x => ?_) _) fun vs => plain_pure _
  cases x with
  | tmp t => exact plain_pure _
  | cell a t => exact plain_bind (plain_asAddr _) fun _ => plain_loadVar _ _

set_option maxHeartbeats 1000000 in
theorem tback {f c : Frame} {r : List Frame} {w v : World} (hT : TFr P F f) (hm : f.mode = .returning) (hs : Sim X Y w v) : (∃ o v' es, stepG P true (G f (c :: r)) v = .ended o v' es) ∨
    ∃ y v' es w', stepG P true (G f (c :: r)) v = .go (G (c.finish y) r) v' es ∧ Tp P (G f (c :: r)) v (G (c.finish y) r) v' es ∧ Sim X Y w' v' ∧ w.heap.size ≤ w'.heap.size ∧ EvsP X w' es ∧ ∀ c2 r2, stepG P true (G f (c2 :: r2)) w = .go (G (c2.finish y) r2) w' es := by
  obtain ⟨fn, tmps, todo, defers, mode, kind, round⟩ := f
  obtain ⟨⟨fun0, hfn⟩, hk, hd, hr, ht⟩ := hT
  dsimp only at hfn hk hd hr ht hm
  subst hk hd hr hm
  have hpl := plain_results (P := P) fun0 tmps
  have eA : ∀ c2 r2 u, stepG P true (G ⟨fn, tmps, todo, [], .returning, .normal, none⟩ (c2 :: r2)) u =
      GStep.after (seen P fn ((results fun0 tmps).runT P u #[]).2) (match ((results fun0 tmps).runT P u #[]).1 with
        | .ok v w => doReturn P true ⟨fn, tmps, todo, [], .returning, .normal, none⟩ (c2 :: r2) none v w
        | .halt (.stuck s) w => .ended (.stuck s (Frame.pos P ⟨fn, tmps, todo, [], .returning, .normal, none⟩)) w
        | .halt _ w => .ended (.stuck "return: the result variables cannot be read" (Frame.pos P ⟨fn, tmps, todo, [], .returning, .normal, none⟩)) w) := fun c2 r2 u => by
    simp only [G, stepG, unwind, hfn]
    rfl
  cases hrun : (results fun0 tmps).runT P v #[] with
  | mk x es =>
    cases x with
    | halt h v' =>
      refine .inl ?_
      rw [eA, hrun]
      cases h <;> exact ⟨_, _, _, rfl⟩
    | ok y v' =>
      obtain ⟨w', hrun', hs', hsz, hev⟩ := sim_run _ w v #[] y v' es hpl hs hrun
      have hsz' : w.heap.size ≤ w'.heap.size := by rw [hs.size, hs'.size]; exact hsz
      obtain ⟨ht1, ht2, ht3⟩ := tape_run _ v #[] y v' es hpl hs.nv hrun
      refine .inr ⟨y, _, seen P fn es, w', by rw [eA, hrun]; simp only [doReturn, GStep.after]; rfl, ⟨ht1, ht2, fun τ hτ => by rw [eA, ht3 τ hτ]; simp only [doReturn, GStep.after]; rfl⟩, hs', hsz', fun e he => (hev e (mem_seen he)).resolve_left (by simp), fun c2 r2 => ?_⟩
      rw [eA, hrun']
      simp only [doReturn, GStep.after]
      rfl

/-- A frame beneath all: whatever comes back to it, or falls on it, is the end. -/
def f0 : Frame := { fn := 0, tmps := #[], todo := [.code (.refuse "")], defers := [{ target := .nil, args := #[] }], mode := .run, kind := .normal }
theorem f0_run (u : World) : ∃ o v es, stepG P true (G f0 []) u = .ended o v es := ⟨_, _, _, rfl⟩
theorem f0_finish (v : Value) : f0.finish v = f0 := rfl
theorem f0_dead (ch : List PanicEntry) (u : World) : ∃ o v es, stepG P true (G { f0 with mode := .panicking ch } []) u = .ended o v es := ⟨_, _, _, rfl⟩

/-- The stack of such a run: all but the last frame wait for a callee. -/
def Stack (P : Program) (F : FuncId → Bool) : List Frame → Prop
  | [] => True
  | c :: r => (TFr P F c ∧ c.mode = .run ∧ c.todo ≠ [] ∧ (∀ v, TFr P F (c.finish v) ∧ (c.finish v).mode = .run ∧ ∀ K, (extB K c).finish v = extB K (c.finish v))) ∧ Stack P F r

theorem finish_ok {c : Frame} (hT : TFr P F c) (hm : c.mode = .run) (hne : c.todo ≠ []) : ∀ v, TFr P F (c.finish v) ∧ (c.finish v).mode = .run ∧ ∀ K, (extB K c).finish v = extB K (c.finish v) := by
  intro v
  obtain ⟨fn, tmps, todo, defers, mode, kind, round⟩ := c
  obtain ⟨h1, hk, hd, hr, ht⟩ := hT
  dsimp only at h1 hk hd hr ht hm hne
  subst hk hd hr hm
  cases todo with
  | nil => exact absurd rfl hne
  | cons it k =>
    have hit := ht it (by simp)
    cases it with
    | inRegion ops is =>
      cases is with
      | nil => exact ⟨⟨h1, rfl, rfl, rfl, ht⟩, rfl, fun K => rfl⟩
      | cons i rest =>
        refine ⟨⟨h1, rfl, rfl, rfl, fun x hx => ?_⟩, rfl, fun K => rfl⟩
        rcases List.mem_cons.1 hx with rfl | hx
        · exact hit
        · exact ht x (by simp [hx])
    | code c => exact ⟨⟨h1, rfl, rfl, rfl, ht⟩, rfl, fun K => rfl⟩
    | inBlock id => exact ⟨⟨h1, rfl, rfl, rfl, ht⟩, rfl, fun K => rfl⟩
    | inLoop c => exact ⟨⟨h1, rfl, rfl, rfl, ht⟩, rfl, fun K => rfl⟩
    | _ => cases hit

/-- The stack with more to do behind its last frame, and other callers. -/
def extS (K : List Item) (cs : List Frame) : List Frame → List Frame
  | [] => cs
  | [b] => extB K b :: cs
  | c :: d :: r => c :: extS K cs (d :: r)

/-- Steps that list what is allowed. -/
inductive Gets (P : Program) (X : Nat → Prop) : Goroutine → World → Goroutine → World → Prop
  | refl (g : Goroutine) (w : World) : Gets P X g w g w
  | step {g g' g'' : Goroutine} {w w' w'' : World} {es : Array Event} : g.status = .running → stepG P true g w = .go g' w' es → EvsP X w' es → w.heap.size ≤ w'.heap.size → Gets P X g' w' g'' w'' → Gets P X g w g'' w''
theorem Gets.trans {g g' g'' : Goroutine} {w w' w'' : World} (h : Gets P X g w g' w') (h' : Gets P X g' w' g'' w'') : Gets P X g w g'' w'' := by
  induction h with
  | refl => exact h'
  | step a b c d _ ih => exact .step a b c d (ih h')

/-- n steps of a goroutine alone. -/
def ownN (P : Program) (n : Nat) (f : Frame) (cs : List Frame) (v : World) (f' : Frame) (cs' : List Frame) (v' : World) : Prop := runN P n (lone f cs v) = .next (lone f' cs' v')
theorem own_go {n : Nat} {f f1 f' : Frame} {cs cs1 cs' : List Frame} {v v1 v' : World} {es : Array Event} (he : stepG P true (G f cs) v = .go (G f1 cs1) v1 es) (h : ownN P (n + 1) f cs v f' cs' v') : ownN P n f1 cs1 v1 f' cs' v' := by
  have : step P (lone f cs v) = .next (lone f1 cs1 v1) := step_lone_go (by rw [show stepG P true { frame := f, callers := cs, status := .running, dying := none } v = _ from he]; rfl)
  unfold ownN at h
  rw [runN, this] at h
  exact h
theorem own_end {n : Nat} {f f' : Frame} {cs cs' : List Frame} {v v1 v' : World} {o : Outcome} {es : Array Event} (he : stepG P true (G f cs) v = .ended o v1 es) : ¬ ownN P (n + 1) f cs v f' cs' v' := by
  have : step P (lone f cs v) = .ended o v1 := step_lone_ended (by rw [show stepG P true { frame := f, callers := cs, status := .running, dying := none } v = _ from he]; rfl)
  intro h
  unfold ownN at h
  rw [runN, this] at h
  cases h
theorem own_zero {f f' : Frame} {cs cs' : List Frame} {v v' : World} (h : ownN P 0 f cs v f' cs' v') : f = f' ∧ cs = cs' ∧ v = v' := by
  unfold ownN at h
  rw [runN] at h
  simp only [lone, Stepped.next.injEq, Machine.mk.injEq] at h
  obtain ⟨h1, h2, _⟩ := h
  simp at h2
  exact ⟨h2.1, h2.2, h1⟩

/-- Once a panic is on its way there is no way back. -/
theorem dead_end : ∀ (n : Nat) (f : Frame) (r : List Frame) (ch : List PanicEntry) (v : World) (f' : Frame) (r' : List Frame) (v' : World), (∀ c ∈ r, TFr P F c ∧ c.mode = .run) → f.mode = .panicking ch → ((∃ fn, P.funcs[f.fn]? = some fn) ∧ f.defers = []) → f'.mode = .run →
    ¬ ownN P n f (r ++ [f0]) v f' r' v'
  | 0, f, r, ch, v, f', r', v', _, hm, _, hm', h => by
    obtain ⟨rfl, _⟩ := own_zero h
    rw [hm'] at hm
    cases hm
  | n + 1, f, r, ch, v, f', r', v', hr, hm, ⟨⟨fn, hfn⟩, hd⟩, hm', h => by
    have hcat : f.catches P = false := by unfold Frame.catches; rw [hfn]
    cases r with
    | nil =>
      have e : stepG P true (G f ([] ++ [f0])) v = .go (G (f0.raise ch) []) v #[] := by
        simp only [List.nil_append, G, stepG, hm, unwind, hd, hcat, Bool.false_eq_true, if_false]
      have h2 := own_go e h
      cases n with
      | zero =>
        obtain ⟨h3, _⟩ := own_zero h2
        rw [← h3] at hm'
        cases hm'
      | succ n =>
        obtain ⟨o, v1, es, he⟩ := f0_dead (P := P) ch v
        exact own_end (show stepG P true (G (f0.raise ch) []) v = _ from he) h2
    | cons c r =>
      have e : stepG P true (G f (c :: r ++ [f0])) v = .go (G (c.raise ch) (r ++ [f0])) v #[] := by
        simp only [List.cons_append, G, stepG, hm, unwind, hd, hcat, Bool.false_eq_true, if_false]
      have h2 := own_go e h
      obtain ⟨hc, hcm⟩ := hr c (by simp)
      have er : c.raise ch = { c with mode := .panicking ch } := by simp [Frame.raise, hcm]
      rw [er] at h2
      exact dead_end n { c with mode := .panicking ch } r ch v f' r' v' (fun x hx => hr x (by simp [hx])) rfl ⟨hc.fn, hc.defers⟩ hm' h2

def extG (K : List Item) (cs : List Frame) (f : Frame) (r : List Frame) : Goroutine :=
  match r with
  | [] => G (extB K f) cs
  | c :: r => G f (extS K cs (c :: r))

theorem stack_mem : ∀ {r : List Frame}, Stack P F r → ∀ c ∈ r, TFr P F c ∧ c.mode = .run
  | [], _, c, h => by simp at h
  | d :: r, hS, c, h => by
    rcases List.mem_cons.1 h with rfl | h
    · exact ⟨hS.1.1, hS.1.2.1⟩
    · exact stack_mem hS.2 c h

/-- From f0 there is no way back. -/
theorem f0_end (n : Nat) (v : World) (fz : Frame) (v' : World) : ¬ ownN P n f0 [] v fz [f0] v' := by
  intro h
  cases n with
  | zero => exact absurd (own_zero h).2.1 (by simp)
  | succ n =>
    obtain ⟨o, v1, es, he⟩ := f0_run (P := P) v
    exact own_end he h

/-- ████ The run is carried over. -/
theorem carry (hF : GoodF P F) {fz : Frame} {v' : World} (hz : fz.todo = []) (hzm : fz.mode = .run) (K : List Item) (cs : List Frame) : ∀ (n : Nat) (f : Frame) (r : List Frame) (v w : World), TFr P F f → (f.mode = .run ∨ f.mode = .returning) → Stack P F r → Sim X Y w v →
    ownN P n f (r ++ [f0]) v fz [f0] v' → ∃ w', Sim X Y w' v' ∧ Gets P X (extG K cs f r) w (G (extB K fz) cs) w'
  | 0, f, r, v, w, hT, hm, hS, hs, h => by
    obtain ⟨rfl, h2, rfl⟩ := own_zero h
    have : r = [] := by
      have := congrArg List.length h2
      simp at this
      exact this
    subst this
    exact ⟨w, hs, .refl _ _⟩
  | n + 1, f, r, v, w, hT, hm, hS, hs, h => by
    rcases hm with hm | hm
    · by_cases hend : r = [] ∧ f.todo = []
      · obtain ⟨rfl, ht⟩ := hend
        have e : stepG P true (G f ([] ++ [f0])) v = .go (G { f with mode := .returning } ([] ++ [f0])) v #[] := by
          obtain ⟨fn, tmps, todo, defers, mode, kind, round⟩ := f
          have hk := hT.kind
          have hd := hT.defers
          have hr := hT.round
          dsimp only at hk hd hr ht hm
          subst hk hd hr ht hm
          rfl
        have h2 := own_go e h
        cases n with
        | zero =>
          obtain ⟨h3, _⟩ := own_zero h2
          rw [← h3] at hzm
          cases hzm
        | succ n =>
          rcases tback (c := f0) (r := []) (f := { f with mode := .returning }) (F := F) ⟨hT.fn, hT.kind, hT.defers, hT.round, hT.todo⟩ rfl hs with ⟨o, v'', es', he⟩ | ⟨y, v'', es', w', he, _⟩
          · exact (own_end he h2).elim
          · exact absurd (own_go he h2) (f0_end n _ fz v')
      · rcases tstep (cs := r ++ [f0]) hF hT hm hs with ⟨o, v'', es', he⟩ | ⟨ch, v'', es', he⟩ | ⟨g', v'', es', w', he, _, hs', hsz, hev, hway⟩
        · exact (own_end he h).elim
        · exact absurd (own_go he h) (dead_end (F := F) n _ r ch _ fz [f0] v' (stack_mem hS) rfl ⟨hT.fn, hT.defers⟩ hzm)
        · cases hway with
          | @here f' hg hT' hm' hB =>
            subst hg
            have h2 := own_go he h
            obtain ⟨w2, hs2, hG⟩ := carry hF hz hzm K cs n f' r v'' w' hT' hm' hS hs' h2
            refine ⟨w2, hs2, ?_⟩
            cases r with
            | nil => exact .step rfl (hB K cs fun ht => absurd ⟨rfl, ht⟩ hend) hev hsz hG
            | cons c r =>
              have := hB [] (extS K cs (c :: r)) (fun _ => rfl)
              rw [extB_nil, extB_nil] at this
              exact .step rfl this hev hsz hG
          | @call e hg hTe hme hne hB =>
            subst hg
            have h2 := own_go he h
            obtain ⟨w2, hs2, hG⟩ := carry hF hz hzm K cs n e (f :: r) v'' w' hTe (.inl hme) ⟨⟨hT, hm, hne, finish_ok hT hm hne⟩, hS⟩ hs' h2
            refine ⟨w2, hs2, ?_⟩
            cases r with
            | nil => exact .step rfl (hB K cs) hev hsz hG
            | cons c r =>
              have := hB [] (extS K cs (c :: r))
              rw [extB_nil] at this
              exact .step rfl this hev hsz hG
          | back _ _ hr _ => rw [hm] at hr; cases hr
    · cases r with
      | nil =>
        rcases tback (c := f0) (r := []) (F := F) hT hm hs with ⟨o, v'', es', he⟩ | ⟨y, v'', es', w', he, _⟩
        · exact (own_end he h).elim
        · exact absurd (own_go he h) (f0_end n _ fz v')
      | cons c r =>
        rcases tback (c := c) (r := r ++ [f0]) (F := F) hT hm hs with ⟨o, v'', es', he⟩ | ⟨y, v'', es', w', he, _, hs', hsz, hev, hB⟩
        · exact (own_end he h).elim
        · have h2 := own_go he h
          obtain ⟨hTc, hmc, hfin⟩ := hS.1.2.2.2 y
          obtain ⟨w2, hs2, hG⟩ := carry hF hz hzm K cs n (c.finish y) r v'' w' hTc (.inl hmc) hS.2 hs' h2
          refine ⟨w2, hs2, ?_⟩
          cases r with
          | nil =>
            have := hB (extB K c) cs
            rw [hfin K] at this
            exact .step rfl this hev hsz hG
          | cons d r => exact .step rfl (hB c (extS K cs (d :: r))) hev hsz hG

/-- ████ A piece of such code, by its lone law: with whatever to do behind it, whoever called. -/
theorem seg (hF : GoodF P F) {c : Code} (hc : okCode P F c = true) {Q : Exit → Act → World → Prop} {a : Act} {v : World} (h : c.wp P Q a v) (hQ : ∀ e a' v', Q e a' v' → e = .normal ∧ a'.defers = []) (ha : a.defers = []) {f : FuncId} (hf : ∃ fn, P.funcs[f]? = some fn) {w : World} (hs : Sim X Y w v) :
    ∃ a' v', Q .normal a' v' ∧ ∀ (k : List Item) (cs : List Frame), ∃ w'', Sim X Y w'' v' ∧ Gets P X (G ((base f).at a (.code c :: k)) cs) w (G ((base f).at a' k) cs) w'' := by
  obtain ⟨e, a', v', hq, harr⟩ := h (base f) [] [f0]
  obtain ⟨rfl, hd⟩ := hQ _ _ _ hq
  obtain ⟨n, hn⟩ : Steps P (lone ((base f).at a [.code c]) [f0] v) (lone ((base f).at a' []) [f0] v') := harr
  have key := fun K cs => carry hF (X := X) (Y := Y) (fz := (base f).at a' []) (v' := v') rfl rfl K cs n ((base f).at a [.code c]) [] v w ⟨hf, rfl, ha, rfl, fun x hx => by simp [Frame.at] at hx; subst hx; exact hc⟩ (.inl rfl) trivial hs hn
  exact ⟨a', v', hq, fun k cs => key k cs⟩

def NoX : Nat → Prop := fun _ => False
end
end Go.Lf

/-
  Single steps of such walks: an operation, a call, a return.
-/
import Derived.Test.YtkpcmfgeanlcnaaLfJ
import Derived.Conc.Own4
import Derived.Conc.Walk
namespace Go.Lf
open Go.Conc

section
variable {P : Program} {F : FuncId → Bool} {X : Nat → Prop} {Y : Nat → Option Obj} {D : Array Event → Prop} {Stop : Goroutine → World → Prop} {Φ : Goroutine → World → Prop} {f : FuncId} {k : List Item} {cs : List Frame} {a : Act} {v v' : World} {ops : Array Oper} {i : Nat} {rest : List Nat} {o : Oper} {u : Value}

theorem eval_func (a : Act) (g : FuncId) : a.eval (.func g) = .func (.func g) #[] #[] := rfl

/-- An operation's run, in the other world. -/
theorem op_run (hF : GoodF P F) (hok : okOp P F o = true) {x : Next} (hrun : (execOp a.eval o).run P v = .ok x v') {w : World} (hs : Sim X Y w v) (fn : FuncId) :
    ∃ w', (execOp a.eval o).run P w = .ok x w' ∧ Sim X Y w' v' ∧ w.heap.size ≤ w'.heap.size ∧ EvsP X w' (listed P fn a o w) := by
  obtain ⟨hpl, _⟩ := exec_ok hF (ρ := a.eval) (eval_func a) hok
  obtain ⟨w', h1, h2, h3, h4⟩ := sim_run (execOp a.eval o) w v #[] x v' ((execOp a.eval o).events P v #[]) hpl hs (by rw [Sem.runT_eq, hrun])
  rw [Sem.runT_eq, Prod.mk.injEq] at h1
  refine ⟨w', h1.1, h2, by rw [hs.size, h2.size]; exact h3, fun e he => ?_⟩
  unfold listed at he
  rw [h1.2] at he
  exact (h4 e (mem_seen he)).resolve_left (by simp)

theorem rea_region {id : Nat} (hr : Rea P Y Φ f cs (.inRegion ops (List.range ops.size) :: k) a v) : Rea P Y Φ f cs (.code (.region id ops false) :: k) a v := reach_step (fun _ => stepG_region) hr
theorem rea_end (hr : Rea P Y Φ f cs k a v) : Rea P Y Φ f cs (.inRegion ops [] :: k) a v := reach_step (fun _ => stepG_region_end) hr
theorem reaI_region {id : Nat} (hD : D #[]) (hr : ReaI P X Y D Stop f cs (.inRegion ops (List.range ops.size) :: k) a v) : ReaI P X Y D Stop f cs (.code (.region id ops false) :: k) a v := reachI_step hD (fun _ => stepG_region) hr
theorem reaI_end (hD : D #[]) (hr : ReaI P X Y D Stop f cs k a v) : ReaI P X Y D Stop f cs (.inRegion ops [] :: k) a v := reachI_step hD (fun _ => stepG_region_end) hr

theorem rea_op (hF : GoodF P F) (ho : ops[i]? = some o) (hw : Region.wanted o (yielded ops a.tmps) = true) (hok : okOp P F o = true) (hrun : (execOp a.eval o).run P v = .ok (.value u) v') (h : Rea P Y Φ f cs (.inRegion ops rest :: k) (a.put o.dst u) v') : Rea P Y Φ f cs (.inRegion ops (i :: rest) :: k) a v := by
  intro w hs
  obtain ⟨w', h1, h2, h3, h4⟩ := op_run hF hok hrun hs f
  obtain ⟨g', w2, h5, h6⟩ := h w' h2
  exact ⟨g', w2, h5, .step rfl (stepG_value (b := base f) ho hw (by intro h; cases h) h1) h4 h3 h6⟩
theorem reaI_op (hF : GoodF P F) (hD : ∀ w es, EvsP X w es → D es) (ho : ops[i]? = some o) (hw : Region.wanted o (yielded ops a.tmps) = true) (hok : okOp P F o = true) (hrun : ∀ τ d, ∃ v', (execOp a.eval o).run P { v with tape := τ, drawn := d } = .ok (.value u) v' ∧ ReaI P X Y D Stop f cs (.inRegion ops rest :: k) (a.put o.dst u) v') : ReaI P X Y D Stop f cs (.inRegion ops (i :: rest) :: k) a v := by
  intro w hs
  refine .next rfl fun d => ?_
  obtain ⟨v', h0, h⟩ := hrun (fun p => w.tape (d + p)) 0
  obtain ⟨w', h1, h2, h3, h4⟩ := op_run hF hok h0 (hs.re d 0 (fun p => w.tape (d + p)) fun i q => by simp) f
  exact ⟨_, _, _, stepG_value (b := base f) ho hw (by intro h; cases h) h1, hD _ _ h4, h w' h2.t⟩

theorem rea_call {g : FuncId} {fn : Func} {c : Code} {args : Array Operand} {ats : Array TypeId} {vs : Array Value} {n : Nat} (ho : ops[i]? = some o) (hw : Region.wanted o (yielded ops a.tmps) = true) (hop : o.op = .call { callee := .value (.func g), args, argTypes := ats })
    (hf : P.funcs[g]? = some fn) (hname : (fn.name == "runtime.NumGoroutine") = false) (hb : fn.body = some c) (hvs : args.map a.eval = vs) (hn : fn.ntmps - vs.size = n)
    (h : Rea P Y Φ g ((base f).at a (.inRegion ops (i :: rest) :: k) :: cs) [.code c] { tmps := vs ++ Array.replicate n undef, defers := [] } v) : Rea P Y Φ f cs (.inRegion ops (i :: rest) :: k) a v := by
  subst hvs hn
  intro w hs
  obtain ⟨g', w2, h5, h6⟩ := h w hs
  obtain ⟨g1, w1, es, hgo, rfl, rfl, rfl⟩ := goes_elim (goes_call (P := P) (main := true) (b := base f) (a := a) (k := k) (cs := cs) (w := w) (rest := rest) (K := fun g1 w1 es => g1 = G ((base g).at { tmps := args.map a.eval ++ Array.replicate (fn.ntmps - (args.map a.eval).size) undef, defers := [] } [.code c]) ((base f).at a (.inRegion ops (i :: rest) :: k) :: cs) ∧ w1 = w ∧ es = #[]) ho hw (by intro h; cases h) hop hf hname hb ⟨rfl, rfl, rfl⟩)
  exact ⟨g', w2, h5, .step rfl hgo (fun e he => by simp at he) (Nat.le_refl _) h6⟩

/-- A return to a caller. -/
theorem reaI_ret (hD : ∀ w es, EvsP X w es → D es) (ha : a.defers = []) {fn : Func} (hf : P.funcs[f]? = some fn) {c : Frame} {y : Value} (hres : ∀ τ d, (results fn a.tmps).run P { v with tape := τ, drawn := d } = .ok y { v with tape := τ, drawn := d })
    (h : ∀ w, SimT X Y w v → GoesI P D Stop (G (c.finish y) cs) w) : ReaI P X Y D Stop f (c :: cs) [.code .ret] a v := by
  obtain ⟨tmps, d0⟩ := a
  subst ha
  intro w hs
  have hD0 : D #[] := hD ⟨#[], fun _ _ => 0, 0, default, #[]⟩ #[] fun _ he => by simp at he
  refine .next rfl fun d => ⟨G { (base f).at ⟨tmps, []⟩ [.code .ret] with mode := .returning } (c :: cs), w.at d, #[], rfl, hD0, ?_⟩
  refine .next rfl fun d' => ?_
  have hs' : Sim X Y (w.at d') { v with tape := fun p => w.tape (d' + p), drawn := 0 } := hs.re d' 0 _ fun i q => by simp
  have hr := hres (fun p => w.tape (d' + p)) 0
  obtain ⟨w', h1, h2, h3, h4⟩ := sim_run (results fn tmps) (w.at d') _ #[] y _ ((results fn tmps).events P { v with tape := fun p => w.tape (d' + p), drawn := 0 } #[]) (plain_results fn tmps) hs' (by rw [Sem.runT_eq, hr])
  refine ⟨G (c.finish y) cs, w', seen P f ((results fn tmps).events P { v with tape := fun p => w.tape (d' + p), drawn := 0 } #[]), ?_, hD w' _ (fun e he => (h4 e (mem_seen he)).resolve_left (by simp)), h w' ⟨_, _, h2⟩⟩
  have eA : ∀ c2 r2 u, stepG P true (G { (base f).at ⟨tmps, []⟩ [.code .ret] with mode := .returning } (c2 :: r2)) u =
      GStep.after (seen P f ((results fn tmps).runT P u #[]).2) (match ((results fn tmps).runT P u #[]).1 with
        | .ok v w => doReturn P true { (base f).at ⟨tmps, []⟩ [.code .ret] with mode := .returning } (c2 :: r2) none v w
        | .halt (.stuck s) w => .ended (.stuck s (Frame.pos P { (base f).at ⟨tmps, []⟩ [.code .ret] with mode := .returning })) w
        | .halt _ w => .ended (.stuck "return: the result variables cannot be read" (Frame.pos P { (base f).at ⟨tmps, []⟩ [.code .ret] with mode := .returning })) w) := fun c2 r2 u => by
    simp only [G, stepG, unwind, base, Frame.at, hf]
    rfl
  show stepG P true _ (w.at d') = _
  rw [eA, h1]
  simp only [doReturn, GStep.after]
  rfl

/-- The last return. -/
theorem reaI_done (hD0 : D #[]) (ha : a.defers = []) {fn : Func} (hf : P.funcs[f]? = some fn) (hin : P.inits.idxOf? f = none) {y : Value} (hres : ∀ u, (results fn a.tmps).runT P u #[] = (.ok y u, #[]))
    (h : ∀ w d, SimT X Y w v → (∀ d', stepG P true (G { (base f).at a [.code .ret] with mode := .returning } []) (w.at d') = .ended (.done y) (w.at d') #[]) → Stop (G { (base f).at a [.code .ret] with mode := .returning } []) (w.at d)) : ReaI P X Y D Stop f [] [.code .ret] a v := by
  obtain ⟨tmps, d0⟩ := a
  subst ha
  intro w hs
  refine .next rfl fun d => ⟨G { (base f).at ⟨tmps, []⟩ [.code .ret] with mode := .returning } [], w.at d, #[], rfl, hD0, ?_⟩
  have eA : ∀ u, stepG P true (G { (base f).at ⟨tmps, []⟩ [.code .ret] with mode := .returning } []) u = .ended (.done y) u #[] := fun u => by
    have := hres u
    dsimp only at this
    simp only [G, stepG, unwind, base, Frame.at, hf, this, seen_none, doReturn, hin, Bool.not_true, Bool.false_eq_true, if_false, GStep.after, Array.append_empty]
  exact .stop fun d' => h w d' hs fun d'' => eA _
end
end Go.Lf

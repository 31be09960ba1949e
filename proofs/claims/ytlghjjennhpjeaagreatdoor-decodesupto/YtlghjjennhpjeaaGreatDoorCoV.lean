/-
  Loops over a function, step by step, beside goroutines that only leave.
-/
import Derived.Test.YtlghjjennhpjeaaGreatDoorLfM
import Derived.Calls
import Derived.Orders
import Derived.Test.YtlghjjennhpjeaaGreatDoorChecked
import Derived.Conc.WgGenN3
import Derived.Test.YtlghjjennhpjeaaGreatDoorGhL
import Derived.Conc.WgWords
namespace Go.Lf
open Go.Conc

section
variable {P : Program} {X : Nat → Prop} {Y : Nat → Option Obj} {D : Nat → World → Array Event → Prop} {Stop : Goroutine → World → Prop} {f : FuncId} {k : List Item} {cs : List Frame} {v w : World}

theorem Sim.put (h : Sim X Y w v) {r : Nat} {o : Obj} (hx : ¬ X r) (hy : Y r = none) (ho : NoView o) : Sim X Y (w.putObj r o) (v.putObj r o) := by
  refine ⟨by simp [h.size], fun b hb => by simpa using h.bound b hb, fun b hb hyb => ?_, fun b o2 hyb => ?_, fun b hb => ?_, fun b o2 hb => ?_, h.os, h.out, h.str, fun b cs t fr hb hc => ?_⟩
  · by_cases e : b = r
    · subst e
      by_cases hl : b < v.heap.size
      · rw [World.putObj_heap_same (by rw [h.size]; exact hl), World.putObj_heap_same hl]
      · rw [Array.getElem?_eq_none (by simp [h.size]; omega), Array.getElem?_eq_none (by simp; omega)]
    · rw [World.putObj_heap_other e, World.putObj_heap_other e]
      exact h.same b hb hyb
  · have e : b ≠ r := fun e => by rw [e, hy] at hyb; cases hyb
    rw [World.putObj_heap_other e, World.putObj_heap_other e]
    exact h.gho b o2 hyb
  · have e : b ≠ r := fun e => hx (e ▸ hb)
    rw [World.putObj_heap_other e, World.putObj_heap_other e]
    exact h.doc b hb
  · by_cases e : b = r
    · subst e
      have hl : b < v.heap.size := by
        have := (Array.getElem?_eq_some_iff.1 hb).1
        simpa using this
      rw [World.putObj_heap_same hl] at hb
      cases hb
      exact ho
    · rw [World.putObj_heap_other e] at hb
      exact h.nv b o2 hb
  · have e : b ≠ r := fun e => hx (e ▸ hb)
    rw [World.putObj_heap_other e] at hc
    exact h.unf b cs t fr hb hc
theorem SimT.put (h : SimT X Y w v) {r : Nat} {o : Obj} (hx : ¬ X r) (hy : Y r = none) (ho : NoView o) : SimT X Y (w.putObj r o) (v.putObj r o) := by
  obtain ⟨τ, d, h⟩ := h
  exact ⟨τ, d, h.put hx hy ho⟩
theorem SimT.alloc (h : SimT X Y w v) {o : Obj} (ho : NoView o) : SimT X Y (w.alloc o) (v.alloc o) := by
  obtain ⟨τ, d, h⟩ := h
  exact ⟨τ, d, h.push ho⟩
theorem SimT.size (h : SimT X Y w v) : w.heap.size = v.heap.size := by
  obtain ⟨τ, d, h⟩ := h
  exact h.size
theorem SimT.far (h : SimT X Y w v) {r : Nat} (hr : v.heap.size ≤ r) : ¬ X r ∧ Y r = none := by
  obtain ⟨τ, d, h⟩ := h
  refine ⟨fun hx => ?_, ?_⟩
  · have := h.bound r (.inl hx)
    have : r < v.heap.size := this
    omega
  · cases hy : Y r with
    | none => rfl
    | some o =>
      have := h.bound r (.inr (by rw [hy]; rfl))
      have : r < v.heap.size := this
      omega
theorem SimT.obj (h : SimT X Y w v) {r : Nat} {o : Obj} (hx : ¬ X r) (hy : Y r = none) (ho : v.heap[r]? = some o) : w.heap[r]? = some o := by
  obtain ⟨τ, d, h⟩ := h
  exact (h.same r hx hy).trans ho

def Ours (X : Nat → Prop) (Y : Nat → Option Obj) (r : Nat) : Prop := ¬ X r ∧ Y r = none

theorem evs_obj (hx : ¬ X f) (w : World) (hl : f < w.heap.size) : EvP X w ⟨.obj f, false, false⟩ ∧ EvP X w ⟨.obj f, true, false⟩ := ⟨.inr (.inl ⟨_, _, _, rfl, hl, hx⟩), .inr (.inl ⟨_, _, _, rfl, hl, hx⟩)⟩
theorem evsP_one {w : World} {e : Event} (h : EvP X w e) (fn : FuncId) : EvsP X w (seen P fn #[e]) := fun e' he' => by
  have := mem_seen he'
  simp at this
  subst this
  exact h
theorem evsP_two {w : World} {e1 e2 : Event} (h1 : EvP X w e1) (h2 : EvP X w e2) (fn : FuncId) : EvsP X w (seen P fn #[e1, e2]) := fun e' he' => by
  have := mem_seen he'
  simp at this
  rcases this with rfl | rfl
  · exact h1
  · exact h2

theorem runT_enterLoop (fn : FuncId) (T : Array Value) (ps : Array Tmp) (assign body : Code) : (Instr.enterLoop fn T ps assign body none).runT P w #[] =
    (.ok (w.heap.size + 1, [{ target := .collected w.heap.size, args := #[] }]) ((w.alloc (.deferred (some []))).alloc (.loop { state := .ready, pending := none, fn, tmps := T, params := ps, assign, body, defers := w.heap.size })), #[]) := by
  rw [Sem.runT_eq, run_enterLoop_outer]
  rfl
theorem runT_yield {l : Nat} {r : Loop} {args : Array Value} (h : w.heap[l]? = some (.loop r)) (hs : args.size = r.params.size) : (Instr.yield l args).runT P w #[] =
    (.ok (.round l r.fn ((r.params.zip args).foldl (fun tmps (t, a) => tmps.setIfInBounds t a) r.tmps) r.assign r.body) w, #[⟨.obj l, false, false⟩]) := by
  simp only [Instr.yield, Instr.getLoop, getObj, bind, Sem.bind, Sem.runT, h, pure, hs, ne_eq, not_true_eq_false, if_false]
  rfl
theorem runT_beginRound {l : Nat} {r : Loop} (h : w.heap[l]? = some (.loop r)) (hr : r.state = .ready) : (Instr.beginRound l).runT P w #[] = (.ok () (w.putObj l (.loop { r with state := .busy })), #[⟨.obj l, false, false⟩, ⟨.obj l, true, false⟩]) := by
  simp only [Instr.beginRound, Instr.getLoop, getObj, setObj, bind, Sem.bind, Sem.runT, h, pure, hr]
  rfl
theorem runT_endRound {l : Nat} {r : Loop} (h : w.heap[l]? = some (.loop r)) : (Instr.endRound l none).runT P w #[] = (.ok (.bool true) (w.putObj l (.loop { r with state := .ready, pending := none })), #[⟨.obj l, false, false⟩, ⟨.obj l, true, false⟩]) := by
  simp only [Instr.endRound, Instr.getLoop, getObj, setObj, bind, Sem.bind, Sem.runT, h, pure]
  rfl
theorem runT_endLoop {l : Nat} {r : Loop} (h : w.heap[l]? = some (.loop r)) (hb : (r.state == .busy) = false) : (Instr.endLoop l).runT P w #[] = (.ok r.pending (w.putObj l (.loop { r with state := .exhausted })), #[⟨.obj l, false, false⟩, ⟨.obj l, true, false⟩]) := by
  simp only [Instr.endLoop, Instr.getLoop, getObj, setObj, bind, Sem.bind, Sem.runT, h, pure, hb, Bool.false_eq_true, if_false]
  rfl
theorem runT_takeDeferred {b : Nat} {ds : List Deferred} (h : w.heap[b]? = some (.deferred (some ds))) : (Instr.takeDeferred b).runT P w #[] = (.ok ds (w.putObj b (.deferred none)), #[⟨.obj b, false, false⟩, ⟨.obj b, true, false⟩]) := by
  simp only [Instr.takeDeferred, getObj, setObj, bind, Sem.bind, Sem.runT, h, pure]
  rfl

theorem runT_call {gf : FuncId} {fn : Func} {c : Code} (hf : P.funcs[gf]? = some fn) (hname : (fn.name == "runtime.NumGoroutine") = false) (hb : fn.body = some c) (as : Array Value) (u : World) : (callFunc gf as).runT P u #[] = (.ok (.enter gf as) u, #[]) := by
  have hne : fn.body.isNone = false := by rw [hb]; rfl
  show ((fun p : Program => match p.funcs[gf]? with
    | none => stuck "call: no such function"
    | some fn => if fn.name == "runtime.NumGoroutine" then pure .numGoroutine
      else if fn.body.isNone then (do
        mark (.extern gf)
        if let some e := Extern.findNext fn then return ← e as
        match Extern.find fn with
        | some e => pure (.value (← e as))
        | none =>
          if fn.name.endsWith ".init" && !fn.name.startsWith "(" && !fn.name.startsWith "gosem." then pure (.value (.tuple #[]))
          else unsupported (.extern fn.name))
      else pure (.enter gf as) : Program → Sem Next) P).runT P u #[] = _
  dsimp only
  rw [hf]
  dsimp only
  rw [hname, hne]
  rfl

/-- A loop over a function begins. -/
theorem reaR_range (hD : Dok X D) {g : Operand} {ps : Array Tmp} {assign body : Code} {T : Array Value} {gf : FuncId} {lb : Array Value} {fn : Func} {c : Code} (hg : ∀ fr : Frame, fr.tmps = T → fr.eval g = .func (.func gf) #[] lb) (hf : P.funcs[gf]? = some fn) (hname : (fn.name == "runtime.NumGoroutine") = false) (hb : fn.body = some c)
    (h : Ours X Y v.heap.size → Ours X Y (v.heap.size + 1) → ReaR P X Y D Stop none [] gf (Dn none [{ target := .collected v.heap.size, args := #[] }] f T (.inRangeFunc (v.heap.size + 1) :: k) :: cs) [.code c] (#[.func (.yield (v.heap.size + 1)) #[] #[]] ++ lb ++ Array.replicate (fn.ntmps - (1 + lb.size)) undef)
      ((v.alloc (.deferred (some []))).alloc (.loop { state := .ready, pending := none, fn := f, tmps := T, params := ps, assign, body, defers := v.heap.size }))) :
    ReaR P X Y D Stop none [] f cs (.code (.rangeFunc g ps assign body) :: k) T v := by
  intro w hs
  have h1 := hs.far (Nat.le_refl _)
  have h2 := hs.far (r := v.heap.size + 1) (by omega)
  have hsz := hs.size
  refine .next rfl fun d => ?_
  have hs' := ((hs.at d).alloc (o := .deferred (some [])) trivial).alloc (o := .loop { state := .ready, pending := none, fn := f, tmps := T, params := ps, assign, body, defers := v.heap.size }) trivial
  refine ⟨_, _, #[], ?_, hD.nil (by simp [World.at]; omega), h h1 h2 _ hs'⟩
  have e1 : (w.at d).heap.size = v.heap.size := hsz
  have key : ∀ fr : Frame, fr.tmps = T → ∀ u l, (do let d ← resolve fr.eval (rangeCall g l) 0; invoke d.target d.args : Sem Next).runT P u #[] = (.ok (.enter gf (#[.func (.yield l) #[] #[]] ++ lb)) u, #[]) := fun fr hfr u l => by
    show (Deferred.ofValue (fr.eval g) (Array.map fr.eval #[.const (.func (.yield l) #[] #[])]) >>= fun d => invoke d.target d.args : Sem Next).runT P u #[] = _
    rw [hg fr hfr, show Array.map fr.eval #[.const (.func (.yield l) #[] #[])] = #[.func (.yield l) #[] #[]] by simp [Frame.eval]]
    show (callFunc gf (#[] ++ #[.func (.yield l) #[] #[]] ++ lb)).runT P u #[] = _
    rw [runT_call hf hname hb]
    simp
  simp only [G, Dn, stepG, stepG.exec, runT_enterLoop, stepG.apply, if_true]
  rw [key _ rfl]
  simp only [e1, GStep.after, Frame.enter, hf, hb, Option.map_some, Option.getD_some, Option.bind_some, Array.size_append]
  rfl

/-- A round begins: yield is called. -/
theorem reaR_yield (hD : Dok X D) {ops : Array Oper} {i : Nat} {rest : List Nat} {o : Oper} {T : Array Value} {l t : Nat} {r : Loop} {args : Array Operand} {ats : Array TypeId} {vs : Array Value} (ho : ops[i]? = some o) (hw : Region.wanted o (yielded ops T) = true)
    (hop : o.op = .call { callee := .value (.tmp t), args, argTypes := ats }) (ht : T.getD t undef = .func (.yield l) #[] #[]) (hvs : args.map (⟨T, []⟩ : Act).eval = vs) (hl : v.heap[l]? = some (.loop r)) (hO : Ours X Y l) (hps : vs.size = r.params.size)
    (h : ReaR P X Y D Stop (some l) [] r.fn (Dn none [] f T (.inRegion ops (i :: rest) :: k) :: cs) [.code r.assign, .beginRound, .code r.body] ((r.params.zip vs).foldl (fun tmps (t, a) => tmps.setIfInBounds t a) r.tmps) v) :
    ReaR P X Y D Stop none [] f cs (.inRegion ops (i :: rest) :: k) T v := by
  intro w hs
  refine .next rfl fun d => ?_
  have hl' : (w.at d).heap[l]? = some (.loop r) := (hs.at d).obj hO.1 hO.2 hl
  have hlt : l < (w.at d).heap.size := (Array.getElem?_eq_some_iff.1 hl').1
  refine ⟨_, _, seen P f #[⟨.obj l, false, false⟩], ?_, hD.to (w := w.at d) rfl (Nat.le_refl _) (evsP_one (evs_obj hO.1 _ hlt).1 _), h _ (hs.at d)⟩
  have e1 : stepG P true (G (Dn none [] f T (.inRegion ops (i :: rest) :: k)) cs) (w.at d) = stepG.apply P true (Dn none [] f T (.inRegion ops (i :: rest) :: k)) cs none (execOp (Dn none [] f T (.inRegion ops (i :: rest) :: k)).eval o) (w.at d) := by
    simp only [G, Dn, stepG, stepG.exec, ho, Option.map_some, Option.getD_some]
    rw [if_pos hw]
    exact oper_plain (fun c h => by rw [hop] at h; cases h) (by simp only [Frame.oper?, ho])
  have e2 : (execOp (Dn none [] f T (.inRegion ops (i :: rest) :: k)).eval o).runT P (w.at d) #[] = (.ok (.round l r.fn ((r.params.zip vs).foldl (fun tmps (t, a) => tmps.setIfInBounds t a) r.tmps) r.assign r.body) (w.at d), #[⟨.obj l, false, false⟩]) := by
    rw [← runT_yield (P := P) (args := vs) hl' hps]
    have hev : (Dn none [] f T (.inRegion ops (i :: rest) :: k)).eval = (⟨T, []⟩ : Act).eval := by
      funext x
      cases x <;> rfl
    rw [hev]
    obtain ⟨dst, op, ty, pos, after, guard⟩ := o
    dsimp only at hop
    subst hop
    show (Deferred.ofValue (T.getD t undef) (args.map (⟨T, []⟩ : Act).eval) >>= fun d => invoke d.target d.args : Sem Next).runT P (w.at d) #[] = _
    rw [ht, hvs]
    show (Instr.yield l (#[] ++ vs)).runT P (w.at d) #[] = _
    rw [Array.empty_append]
  rw [e1]
  simp only [stepG.apply, if_true, e2, GStep.after]
  rfl

theorem reaR_begin (hD : Dok X D) {T : Array Value} {ds : List Deferred} {l : Nat} {r : Loop} (hl : v.heap[l]? = some (.loop r)) (hr : r.state = .ready) (hO : Ours X Y l) (h : ReaR P X Y D Stop (some l) ds f cs k T (v.putObj l (.loop { r with state := .busy }))) :
    ReaR P X Y D Stop (some l) ds f cs (.beginRound :: k) T v := by
  intro w hs
  refine .next rfl fun d => ?_
  have hl' : (w.at d).heap[l]? = some (.loop r) := (hs.at d).obj hO.1 hO.2 hl
  have hlt : l < (w.at d).heap.size := (Array.getElem?_eq_some_iff.1 hl').1
  refine ⟨_, _, seen P f #[⟨.obj l, false, false⟩, ⟨.obj l, true, false⟩], ?_, hD.to (w := w.at d) (by simp [World.putObj]) (Nat.le_refl _) (evsP_two (evs_obj hO.1 _ hlt).1 (evs_obj hO.1 _ hlt).2 _), h _ ((hs.at d).put hO.1 hO.2 trivial)⟩
  have e2 : (do Option.elim (some l) (stuck "beginRound: no round") Instr.beginRound; pure .skip : Sem Next).runT P (w.at d) #[] = (.ok .skip ((w.at d).putObj l (.loop { r with state := .busy })), #[⟨.obj l, false, false⟩, ⟨.obj l, true, false⟩]) := by
    simp only [Option.elim, Instr.beginRound, Instr.getLoop, getObj, setObj, bind, Sem.bind, Sem.runT, hl', pure, hr]
    rfl
  simp only [G, Dn, stepG, stepG.exec, stepG.apply, if_true]
  rw [e2]
  rfl

theorem reaR_end (hD : Dok X D) {T : Array Value} {c : Frame} {l : Nat} {r : Loop} (hl : v.heap[l]? = some (.loop r)) (hO : Ours X Y l) (h : ∀ w, SimT X Y w (v.putObj l (.loop { r with state := .ready, pending := none })) → GoesI P D Stop (G (c.finish (.bool true)) cs) w) :
    ReaR P X Y D Stop (some l) [] f (c :: cs) [] T v := by
  intro w hs
  refine .next rfl fun d => ?_
  have hl' : (w.at d).heap[l]? = some (.loop r) := (hs.at d).obj hO.1 hO.2 hl
  have hlt : l < (w.at d).heap.size := (Array.getElem?_eq_some_iff.1 hl').1
  refine ⟨_, _, seen P f #[⟨.obj l, false, false⟩, ⟨.obj l, true, false⟩], ?_, hD.to (w := w.at d) (by simp [World.putObj]) (Nat.le_refl _) (evsP_two (evs_obj hO.1 _ hlt).1 (evs_obj hO.1 _ hlt).2 _), h _ ((hs.at d).put hO.1 hO.2 trivial)⟩
  simp only [G, Dn, stepG, stepG.exec, runT_endRound hl', doReturn]
  rfl

theorem reaR_endRange (hD : Dok X D) {T : Array Value} {ds : List Deferred} {ro : Option Nat} {l : Nat} {r : Loop} (hl : v.heap[l]? = some (.loop r)) (hr : (r.state == .busy) = false) (hp : r.pending = none) (hO : Ours X Y l) (h : ReaR P X Y D Stop ro ds f cs k T (v.putObj l (.loop { r with state := .exhausted }))) :
    ReaR P X Y D Stop ro ds f cs (.endRangeFunc l :: k) T v := by
  intro w hs
  refine .next rfl fun d => ?_
  have hl' : (w.at d).heap[l]? = some (.loop r) := (hs.at d).obj hO.1 hO.2 hl
  have hlt : l < (w.at d).heap.size := (Array.getElem?_eq_some_iff.1 hl').1
  refine ⟨_, _, seen P f #[⟨.obj l, false, false⟩, ⟨.obj l, true, false⟩], ?_, hD.to (w := w.at d) (by simp [World.putObj]) (Nat.le_refl _) (evsP_two (evs_obj hO.1 _ hlt).1 (evs_obj hO.1 _ hlt).2 _), h _ ((hs.at d).put hO.1 hO.2 trivial)⟩
  simp only [G, Dn, stepG, stepG.exec, runT_endLoop hl' hr, hp]
  rfl

/-- The last step of a return. -/
theorem goesI_back (hD : Dok X D) {fn : Func} (hf : P.funcs[f]? = some fn) {T : Array Value} {c : Frame} {y : Value} (hres : ∀ τ d, (results fn T).run P { v with tape := τ, drawn := d } = .ok y { v with tape := τ, drawn := d })
    (h : ∀ w, SimT X Y w v → GoesI P D Stop (G (c.finish y) cs) w) (w : World) (hs : SimT X Y w v) : GoesI P D Stop (G { Dn none [] f T k with mode := .returning } (c :: cs)) w := by
  refine .next rfl fun d' => ?_
  have hs' : Sim X Y (w.at d') { v with tape := fun p => w.tape (d' + p), drawn := 0 } := hs.re d' 0 _ fun i q => by simp
  have hr := hres (fun p => w.tape (d' + p)) 0
  obtain ⟨w', h1, h2, h3, h4⟩ := sim_run (results fn T) (w.at d') _ #[] y _ ((results fn T).events P { v with tape := fun p => w.tape (d' + p), drawn := 0 } #[]) (plain_results fn T) hs' (by rw [Sem.runT_eq, hr])
  refine ⟨G (c.finish y) cs, w', seen P f ((results fn T).events P { v with tape := fun p => w.tape (d' + p), drawn := 0 } #[]), ?_, hD _ w' _ (Nat.le_of_eq (hs'.size.trans h2.size.symm)) (fun e he => (h4 e (mem_seen he)).resolve_left (by simp)), h w' ⟨_, _, h2⟩⟩
  have eA : ∀ c2 r2 u, stepG P true (G { Dn none [] f T k with mode := .returning } (c2 :: r2)) u =
      GStep.after (seen P f ((results fn T).runT P u #[]).2) (match ((results fn T).runT P u #[]).1 with
        | .ok v w => doReturn P true { Dn none [] f T k with mode := .returning } (c2 :: r2) none v w
        | .halt (.stuck s) w => .ended (.stuck s (Frame.pos P { Dn none [] f T k with mode := .returning })) w
        | .halt _ w => .ended (.stuck "return: the result variables cannot be read" (Frame.pos P { Dn none [] f T k with mode := .returning })) w) := fun c2 r2 u => by
    simp only [G, stepG, unwind, Dn, hf]
    rfl
  show stepG P true _ (w.at d') = _
  rw [eA, h1]
  simp only [doReturn, GStep.after]
  rfl
/-- Off the end of a function. -/
theorem reaR_fall (hD : Dok X D) {fn : Func} (hf : P.funcs[f]? = some fn) {T : Array Value} {c : Frame} {y : Value} (hres : ∀ τ d, (results fn T).run P { v with tape := τ, drawn := d } = .ok y { v with tape := τ, drawn := d })
    (h : ∀ w, SimT X Y w v → GoesI P D Stop (G (c.finish y) cs) w) : ReaR P X Y D Stop none [] f (c :: cs) [] T v := by
  intro w hs
  exact .next rfl fun d => ⟨G { Dn none [] f T [] with mode := .returning } (c :: cs), w.at d, #[], rfl, hD.nil (Nat.le_refl _), goesI_back hD hf hres h _ (hs.at d)⟩
/-- A return behind a loop over a function. -/
theorem reaR_ret (hD : Dok X D) {fn : Func} (hf : P.funcs[f]? = some fn) {T : Array Value} {c : Frame} {b : Nat} {y : Value} (hb : v.heap[b]? = some (.deferred (some []))) (hO : Ours X Y b) (hres : ∀ τ d, (results fn T).run P { v.putObj b (.deferred none) with tape := τ, drawn := d } = .ok y { v.putObj b (.deferred none) with tape := τ, drawn := d })
    (h : ∀ w, SimT X Y w (v.putObj b (.deferred none)) → GoesI P D Stop (G (c.finish y) cs) w) : ReaR P X Y D Stop none [{ target := .collected b, args := #[] }] f (c :: cs) [.code .ret] T v := by
  intro w hs
  refine .next rfl fun d => ⟨G { Dn none [{ target := .collected b, args := #[] }] f T [.code .ret] with mode := .returning } (c :: cs), w.at d, #[], rfl, hD.nil (Nat.le_refl _), ?_⟩
  refine .next rfl fun d' => ?_
  have hb' : (w.at d').heap[b]? = some (.deferred (some [])) := (hs.at d').obj hO.1 hO.2 hb
  have hlt : b < (w.at d').heap.size := (Array.getElem?_eq_some_iff.1 hb').1
  refine ⟨G { Dn none [] f T [.code .ret] with mode := .returning } (c :: cs), (w.at d').putObj b (.deferred none), seen P f #[⟨.obj b, false, false⟩, ⟨.obj b, true, false⟩], ?_, hD.to (w := w.at d') (by simp [World.putObj]) (Nat.le_refl _) (evsP_two (evs_obj hO.1 _ hlt).1 (evs_obj hO.1 _ hlt).2 _), goesI_back hD hf hres h _ ((hs.at d').put hO.1 hO.2 trivial)⟩
  show stepG P true _ (w.at d') = _
  simp only [G, Dn, stepG, unwind, runT_takeDeferred hb']
  rfl
end
end Go.Lf

/-
  Ahead of the fork: a call by its contract, and a region that draws its order.
-/
namespace Go.Lf
open Go.Conc

section
variable {P : Program} {F : FuncId → Bool} {X : Nat → Prop} {Y : Nat → Option Obj} {Φ : Goroutine → World → Prop} {f : FuncId} {k : List Item} {cs : List Frame} {a : Act} {v : World} {ops : Array Oper} {i : Nat} {rest : List Nat} {o : Oper}

theorem dead_end2 : ∀ (n : Nat) (f : Frame) (r : List Frame) (ch : List PanicEntry) (v : World) (f' : Frame) (r' : List Frame) (v' : World), (∀ c ∈ r, TFr P F c ∧ c.mode = .run) → f.mode = .panicking ch → ((∃ fn, P.funcs[f.fn]? = some fn) ∧ f.defers = []) → (∀ ch, f'.mode ≠ .panicking ch) →
    ¬ ownN P n f (r ++ [f0]) v f' r' v'
  | 0, f, r, ch, v, f', r', v', _, hm, _, hm', h => by
    obtain ⟨rfl, _⟩ := own_zero h
    exact hm' _ hm
  | n + 1, f, r, ch, v, f', r', v', hr, hm, ⟨⟨fn, hfn⟩, hd⟩, hm', h => by
    have hcat : f.catches P = false := by unfold Frame.catches; rw [hfn]
    cases r with
    | nil =>
      have e : stepG P true (G f ([] ++ [f0])) v = .go (G (f0.raise ch) []) v #[] := by
        simp only [List.nil_append, G, stepG, hm, unwind, hd, hcat, Bool.false_eq_true, if_false]
      have h2 := own_go e h
      cases n with
      | zero =>
        obtain ⟨h3, _⟩ := own_zero h2
        exact hm' ch (by rw [← h3]; rfl)
      | succ n =>
        obtain ⟨o, v1, es, he⟩ := f0_dead (P := P) ch v
        exact own_end (show stepG P true (G (f0.raise ch) []) v = _ from he) h2
    | cons c r =>
      have e : stepG P true (G f (c :: r ++ [f0])) v = .go (G (c.raise ch) (r ++ [f0])) v #[] := by
        simp only [List.cons_append, G, stepG, hm, unwind, hd, hcat, Bool.false_eq_true, if_false]
      have h2 := own_go e h
      obtain ⟨hc, hcm⟩ := hr c (by simp)
      have er : c.raise ch = { c with mode := .panicking ch } := by simp [Frame.raise, hcm]
      rw [er] at h2
      exact dead_end2 n { c with mode := .panicking ch } r ch v f' r' v' (fun x hx => hr x (by simp [hx])) rfl ⟨hc.fn, hc.defers⟩ hm' h2

theorem f0_end2 (n : Nat) (v : World) (fz : Frame) (v' : World) : ¬ ownN P n f0 [] v fz [f0] v' := f0_end n v fz v'

theorem extS_nil (cs : List Frame) : ∀ r : List Frame, extS [] cs r = r ++ cs
  | [] => rfl
  | [b] => by simp [extS, extB_nil]
  | c :: d :: r => by simp only [extS, extS_nil cs (d :: r)]; rfl
/-- A callee's run up to its return is carried over. -/
theorem carryL (hF : GoodF P F) {fz : Frame} {v' : World} (hzm : fz.mode = .returning) (cs : List Frame) : ∀ (n : Nat) (f : Frame) (r : List Frame) (v w : World), TFr P F f → (f.mode = .run ∨ f.mode = .returning) → Stack P F r → Sim X Y w v →
    ownN P n f (r ++ [f0]) v fz [f0] v' → TFr P F fz ∧ ∃ w', Sim X Y w' v' ∧ Gets P X (G f (r ++ cs)) w (G fz cs) w'
  | 0, f, r, v, w, hT, hm, hS, hs, h => by
    obtain ⟨rfl, h2, rfl⟩ := own_zero h
    have : r = [] := by
      have := congrArg List.length h2
      simp at this
      exact this
    subst this
    exact ⟨hT, w, hs, .refl _ _⟩
  | n + 1, f, r, v, w, hT, hm, hS, hs, h => by
    rcases hm with hm | hm
    · rcases tstep (cs := r ++ [f0]) hF hT hm hs with ⟨o, v'', es', he⟩ | ⟨ch, v'', es', he⟩ | ⟨g', v'', es', w', he, _, hs', hsz, hev, hway⟩
      · exact (own_end he h).elim
      · exact absurd (own_go he h) (dead_end2 (F := F) n _ r ch _ fz [f0] v' (stack_mem hS) rfl ⟨hT.fn, hT.defers⟩ (fun ch e => by rw [hzm] at e; cases e))
      · cases hway with
        | @here f' hg hT' hm' hB =>
          subst hg
          have h2 := own_go he h
          obtain ⟨hz, w2, hs2, hG⟩ := carryL hF hzm cs n f' r v'' w' hT' hm' hS hs' h2
          have := hB [] (r ++ cs) (fun _ => rfl)
          rw [extB_nil, extB_nil] at this
          exact ⟨hz, w2, hs2, .step rfl this hev hsz hG⟩
        | @call e hg hTe hme hne hB =>
          subst hg
          have h2 := own_go he h
          obtain ⟨hz, w2, hs2, hG⟩ := carryL hF hzm cs n e (f :: r) v'' w' hTe (.inl hme) ⟨⟨hT, hm, hne.1, finish_ok hT hm hne⟩, hS⟩ hs' h2
          have := hB [] (r ++ cs)
          rw [extB_nil] at this
          exact ⟨hz, w2, hs2, .step rfl this hev hsz hG⟩
        | back _ _ hr _ => rw [hm] at hr; cases hr
    · cases r with
      | nil =>
        rcases tback (c := f0) (r := []) (F := F) hT hm hs with ⟨o, v'', es', he⟩ | ⟨y, v'', es', w', he, _⟩
        · exact (own_end he h).elim
        · exact absurd (own_go he h) (f0_end n _ fz v')
      | cons c r =>
        rcases tback (c := c) (r := r ++ [f0]) (F := F) hT hm hs with ⟨o, v'', es', he⟩ | ⟨y, v'', es', w', he, _, hs', hsz, hev, hB⟩
        · exact (own_end he h).elim
        · have h2 := own_go he h
          obtain ⟨hTc, hmc, hfin⟩ := hS.1.2.2.2 y
          obtain ⟨hz, w2, hs2, hG⟩ := carryL hF hzm cs n (c.finish y) r v'' w' hTc (.inl hmc) hS.2 hs' h2
          exact ⟨hz, w2, hs2, .step rfl (hB c (r ++ cs)) hev hsz hG⟩

theorem tfr_enter {g : FuncId} (hg : GoodBody P F g) {as : Array Value} (ha : as.size ≤ arity P g) : TFr P F (Frame.enter P g as .normal) := by
  obtain ⟨fn1, c1, S1, g1, g2, g3, g4, g5⟩ := hg
  refine ⟨⟨fn1, g1⟩, rfl, rfl, rfl, S1, fun x hx => ?_, InvS.enter ha g5⟩
  simp only [Frame.enter, g1, Option.bind_some, g3, Option.getD_some, List.mem_singleton] at hx
  subst hx
  exact g4

/-- A region draws its order. -/
theorem rea_draw {id : Nat} (h : ∀ t, Rea P Y Φ f cs (.inRegion ops (Region.schedule (P.follows .mixedOrders) ops t) :: k) a { v with drawn := v.drawn + 1 }) : Rea P Y Φ f cs (.code (.region id ops true) :: k) a v := by
  intro w hs
  have hc : ∀ u : World, (choose (.order f id)).run P u = .ok (u.tape u.drawn (.order f id)) { u with drawn := u.drawn + 1 } := fun u => rfl
  obtain ⟨g', w2, h5, h6⟩ := h (w.tape w.drawn (.order f id)) { w with drawn := w.drawn + 1 } hs.draw
  refine ⟨g', w2, h5, .step (es := #[]) (w' := { w with drawn := w.drawn + 1 }) rfl ?_ (fun e he => by simp at he) (Nat.le_refl w.heap.size) h6⟩
  simp only [G, base, Frame.at, stepG, stepG.exec, Bool.not_true, Bool.false_eq_true, if_false, hc]
theorem order_any (hm : P.follows .mixedOrders = true) (t : Nat) : Region.schedule (P.follows .mixedOrders) ops t = Region.linearise.go .any ops ops.size t (Array.replicate ops.size false) [] := by
  simp only [Region.schedule, hm, Bool.true_or, if_true, Region.linearise]
theorem go_succ (fuel t : Nat) (l : Array Bool) (hne : Region.ready .any ops l ≠ []) : ∃ i t', i ∈ Region.ready .any ops l ∧ Region.linearise.go .any ops (fuel + 1) t l [] = i :: Region.linearise.go .any ops fuel t' (l.setIfInBounds i true) [] := by
  simp only [Region.linearise.go]
  change ∃ i t', i ∈ Region.ready .any ops l ∧ (match (Region.ready .any ops l)[t % (Region.ready .any ops l).length]? with
      | some i => Region.linearise.go .any ops fuel (t / (Region.ready .any ops l).length) (l.setIfInBounds i true) [i]
      | none => [].reverse) = _
  cases hi : (Region.ready .any ops l)[t % (Region.ready .any ops l).length]? with
  | none =>
    refine absurd ?_ hne
    cases hr : Region.ready .any ops l with
    | nil => rfl
    | cons x xs =>
      rw [hr, List.getElem?_eq_none_iff] at hi
      have := Nat.mod_lt t (show 0 < (x :: xs).length by simp)
      omega
  | some i =>
    refine ⟨i, t / (Region.ready .any ops l).length, List.mem_of_getElem? hi, ?_⟩
    simp only []
    rw [linearise_go_acc, List.reverse_singleton, List.singleton_append]
theorem go_none (fuel t : Nat) (l : Array Bool) (hne : Region.ready .any ops l = []) : Region.linearise.go .any ops fuel t l [] = [] := by
  cases fuel with
  | zero => rfl
  | succ fuel =>
    simp only [Region.linearise.go]
    change (match (Region.ready .any ops l)[t % (Region.ready .any ops l).length]? with
      | some i => Region.linearise.go .any ops fuel (t / (Region.ready .any ops l).length) (l.setIfInBounds i true) [i]
      | none => [].reverse) = _
    rw [hne]
    rfl

variable {D : Nat → World → Array Event → Prop} {Stop : Goroutine → World → Prop} {ro : Option Nat} {ds : List Deferred} {T : Array Value}
theorem reaR_I : ReaR P X Y D Stop none [] f cs k T v ↔ ReaI P X Y D Stop f cs k ⟨T, []⟩ v := Iff.rfl
theorem reaR_step (hD : Dok X D) {k k' : List Item} (h : ∀ w, stepG P true (G (Dn ro ds f T k) cs) w = .go (G (Dn ro ds f T k') cs) w #[]) (hr : ReaR P X Y D Stop ro ds f cs k' T v) : ReaR P X Y D Stop ro ds f cs k T v :=
  fun w hs => .next rfl fun d => ⟨_, _, _, h (w.at d), hD.nil (Nat.le_refl _), hr _ (hs.at d)⟩
theorem reaR_split (hD : Dok X D) {c d : Code} (hr : ReaR P X Y D Stop ro ds f cs (.code c :: .code d :: k) T v) : ReaR P X Y D Stop ro ds f cs (.code (.seq c d) :: k) T v := reaR_step hD (fun _ => rfl) hr
theorem reaR_skip (hD : Dok X D) (hr : ReaR P X Y D Stop ro ds f cs k T v) : ReaR P X Y D Stop ro ds f cs (.code .skip :: k) T v := reaR_step hD (fun _ => rfl) hr
theorem reaR_block (hD : Dok X D) {id : Nat} {c : Code} (hr : ReaR P X Y D Stop ro ds f cs (.code c :: .inBlock id :: k) T v) : ReaR P X Y D Stop ro ds f cs (.code (.block id c) :: k) T v := reaR_step hD (fun _ => rfl) hr
theorem reaR_inBlock (hD : Dok X D) {id : Nat} (hr : ReaR P X Y D Stop ro ds f cs k T v) : ReaR P X Y D Stop ro ds f cs (.inBlock id :: k) T v := reaR_step hD (fun _ => rfl) hr
theorem reaR_loop (hD : Dok X D) {c : Code} (hr : ReaR P X Y D Stop ro ds f cs (.code c :: .inLoop c :: k) T v) : ReaR P X Y D Stop ro ds f cs (.code (.loop c) :: k) T v := reaR_step hD (fun _ => rfl) hr
theorem reaR_inLoop (hD : Dok X D) {c : Code} (hr : ReaR P X Y D Stop ro ds f cs (.code c :: .inLoop c :: k) T v) : ReaR P X Y D Stop ro ds f cs (.inLoop c :: k) T v := reaR_step hD (fun _ => rfl) hr
theorem reaR_exit (hD : Dok X D) {id : Nat} {k' : List Item} (he : exitTo id k = some k') (hr : ReaR P X Y D Stop ro ds f cs k' T v) : ReaR P X Y D Stop ro ds f cs (.code (.exit id) :: k) T v := reaR_step hD (fun _ => by simp only [G, Dn, stepG, stepG.exec, he, Option.elim]) hr
theorem reaR_cond (hD : Dok X D) {t : Nat} {b : Bool} {c d : Code} (he : T.getD t undef = .bool b) (hr : ReaR P X Y D Stop ro ds f cs (.code (if b then c else d) :: k) T v) : ReaR P X Y D Stop ro ds f cs (.code (.cond (.tmp t) c d) :: k) T v := reaR_step hD (fun _ => by simp only [G, Dn, stepG, stepG.exec, Frame.eval, he]) hr
theorem reaR_region (hD : Dok X D) {id : Nat} (hr : ReaR P X Y D Stop ro ds f cs (.inRegion ops (List.range ops.size) :: k) T v) : ReaR P X Y D Stop ro ds f cs (.code (.region id ops false) :: k) T v := reaR_step hD (fun _ => rfl) hr
theorem reaR_endReg (hD : Dok X D) (hr : ReaR P X Y D Stop ro ds f cs k T v) : ReaR P X Y D Stop ro ds f cs (.inRegion ops [] :: k) T v := reaR_step hD (fun _ => rfl) hr
/-- A piece of code that is run alone; the lone world may have another tape. -/
theorem reaR_go (hF : GoodF P F) (hD : Dok X D) {c : Code} (hc : okCode P F c = true) (hf : ∃ fn, P.funcs[f]? = some fn)
    (h : ∀ R : Act → World → Prop, (∀ T' v', ReaR P X Y D Stop ro ds f cs k T' v' → R ⟨T', []⟩ v') → ∀ τ d, c.wp P (fun e a' v' => e = .normal ∧ a'.defers = [] ∧ R a' v') ⟨T, []⟩ { v with tape := τ, drawn := d }) : ReaR P X Y D Stop ro ds f cs (.code c :: k) T v :=
  reaR_code hF hD hc hf fun τ d => h (fun a' v' => ReaR P X Y D Stop ro ds f cs k a'.tmps v') (fun _ _ x => x) τ d
/-- A call of a function by name. -/
theorem reaR_call (hD : Dok X D) {g : FuncId} {fn : Func} {c : Code} {args : Array Operand} {ats : Array TypeId} {vs : Array Value} {n : Nat} (ho : ops[i]? = some o) (hw : Region.wanted o (yielded ops T) = true) (hop : o.op = .call { callee := .value (.func g), args, argTypes := ats })
    (hf : P.funcs[g]? = some fn) (hname : (fn.name == "runtime.NumGoroutine") = false) (hb : fn.body = some c) (hvs : args.map (⟨T, []⟩ : Act).eval = vs) (hn : fn.ntmps - vs.size = n)
    (h : ReaR P X Y D Stop none [] g (Dn none [] f T (.inRegion ops (i :: rest) :: k) :: cs) [.code c] (vs ++ Array.replicate n undef) v) : ReaR P X Y D Stop none [] f cs (.inRegion ops (i :: rest) :: k) T v := by
  subst hvs hn
  intro w hs
  refine .next rfl fun d => ?_
  obtain ⟨g1, w1, es, hgo, rfl, rfl, rfl⟩ := goes_elim (goes_call (P := P) (main := true) (b := base f) (a := ⟨T, []⟩) (k := k) (cs := cs) (w := w.at d) (rest := rest) (K := fun g1 w1 es => g1 = G ((base g).at { tmps := args.map (⟨T, []⟩ : Act).eval ++ Array.replicate (fn.ntmps - (args.map (⟨T, []⟩ : Act).eval).size) undef, defers := [] } [.code c]) ((base f).at ⟨T, []⟩ (.inRegion ops (i :: rest) :: k) :: cs) ∧ w1 = w.at d ∧ es = #[]) ho hw (by intro h; cases h) hop hf hname hb ⟨rfl, rfl, rfl⟩)
  exact ⟨_, _, _, hgo, hD.nil (Nat.le_refl _), h _ (hs.at d)⟩
/-- An operation that leaves memory as it is. -/
theorem reaR_op (hF : GoodF P F) (hD : Dok X D) (u : Value) (ho : ops[i]? = some o) (hw : Region.wanted o (yielded ops T) = true) (hok : okOp P F o = true) (hrun : ∀ z : World, z.heap = v.heap → (execOp (⟨T, []⟩ : Act).eval o).run P z = .ok (.value u) z)
    (h : ReaR P X Y D Stop none [] f cs (.inRegion ops rest :: k) ((⟨T, []⟩ : Act).put o.dst u).tmps v) : ReaR P X Y D Stop none [] f cs (.inRegion ops (i :: rest) :: k) T v := by
  have hd : ((⟨T, []⟩ : Act).put o.dst u) = ⟨((⟨T, []⟩ : Act).put o.dst u).tmps, []⟩ := by cases o.dst <;> rfl
  refine reaI_op (a := ⟨T, []⟩) hF hD ho hw hok fun τ d => ⟨_, hrun _ rfl, ?_⟩
  rw [hd]
  exact fun w ⟨τ0, d0, hs⟩ => h w ⟨τ0, d0, hs⟩
/-- An operation that yields nothing: a store. -/
theorem reaR_store (hF : GoodF P F) (hD : Dok X D) {a : Addr} {u : Value} (ho : ops[i]? = some o) (hw : Region.wanted o (yielded ops T) = true) (hok : okOp P F o = true) (hdst : o.dst = none) (hrun : ∀ z : World, z.heap = v.heap → (execOp (⟨T, []⟩ : Act).eval o).run P z = .ok .skip (z.setCell a u))
    (h : ReaR P X Y D Stop none [] f cs (.inRegion ops rest :: k) T (v.setCell a u)) : ReaR P X Y D Stop none [] f cs (.inRegion ops (i :: rest) :: k) T v := by
  intro w hs
  refine .next rfl fun d => ?_
  have h0 := hrun { v with tape := fun p => w.tape (d + p), drawn := 0 } rfl
  obtain ⟨w', h1, h2, h3, h4⟩ := op_run hF hok h0 (hs.re d 0 (fun p => w.tape (d + p)) fun i q => by simp) f
  refine ⟨G (Dn none [] f T (.inRegion ops rest :: k)) cs, w', listed P f ⟨T, []⟩ o (w.at d), ?_, hD _ _ _ h3 h4, h w' ⟨_, _, h2⟩⟩
  have hfin : ((base f).at ⟨T, []⟩ (.inRegion ops (i :: rest) :: k)).finish undef = Dn none [] f T (.inRegion ops rest :: k) := by
    rw [Frame.finish_at, ho]
    simp only [Option.bind_some, hdst]
    rfl
  show stepG P true (G ((base f).at ⟨T, []⟩ (.inRegion ops (i :: rest) :: k)) cs) (w.at d) = _
  rw [stepG_oper ho hw, ← hfin]
  simp [stepG.apply, h1, G, Frame.at, base, GStep.after, listed]
theorem Dn_finish_range (l : Nat) (y : Value) : (Dn ro ds f T (.inRangeFunc l :: k)).finish y = Dn ro ds f T (.endRangeFunc l :: k) := rfl
theorem Dn_finish (ho : ops[i]? = some o) (y : Value) : (Dn ro ds f T (.inRegion ops (i :: rest) :: k)).finish y = Dn ro ds f ((⟨T, []⟩ : Act).put o.dst y).tmps (.inRegion ops rest :: k) := by
  simp only [Frame.finish, Dn, ho, Option.bind_some, Act.put]
  cases o.dst <;> rfl
end
end Go.Lf

/-
  Beside those that leave: a call by its contract, and a region that draws its order.
-/
namespace Go.Lf
open Go.Conc

section
variable {P : Program} {F : FuncId → Bool} {X : Nat → Prop} {Y : Nat → Option Obj} {D : Nat → World → Array Event → Prop} {Stop : Goroutine → World → Prop}

variable (P F X Y D Stop) in
structure SgC (cs : List Frame) (Q : Frame → World → Prop) (s : Sg) : Prop where
  tf : TFr P F s.f
  mode : s.f.mode = .run ∨ s.f.mode = .returning
  stack : Stack P F s.r
  sim : SimT X Y s.w s.u
  law : ∀ τ : Nat → Question → Nat, (∀ p, p < s.u.drawn → τ p = s.u.tape p) → ∃ n fz v', ownN P n s.f (s.r ++ [f0]) { s.u with tape := τ } fz [f0] v' ∧ fz.mode = .returning ∧ Q fz v'
  no : ¬ GoesI P D Stop (G s.f (s.r ++ cs)) s.w

theorem sgC_end {cs : List Frame} {Q : Frame → World → Prop} (hK : ∀ fz v' w', TFr P F fz → fz.mode = .returning → Q fz v' → SimT X Y w' v' → GoesI P D Stop (G fz cs) w') {s : Sg} (hi : SgC P F X Y D Stop cs Q s) {τ : Nat → Question → Nat} {fz : Frame} {v' : World}
    (h : ownN P 0 s.f (s.r ++ [f0]) { s.u with tape := τ } fz [f0] v') (hm : fz.mode = .returning) (hq : Q fz v') : False := by
  obtain ⟨h1, h2, h3⟩ := own_zero h
  have hr : s.r = [] := by
    have := congrArg List.length h2
    simp at this
    exact this
  apply hi.no
  have : G s.f (s.r ++ cs) = G fz cs := by rw [hr, h1]; rfl
  rw [this]
  refine hK fz v' s.w (h1 ▸ hi.tf) hm hq ?_
  rw [← h3]
  exact hi.sim.to τ s.u.drawn

theorem sgC_next (hF : GoodF P F) (hD : Dok X D) {cs : List Frame} {Q : Frame → World → Prop} (hK : ∀ fz v' w', TFr P F fz → fz.mode = .returning → Q fz v' → SimT X Y w' v' → GoesI P D Stop (G fz cs) w') {s : Sg}
    (hi : SgC P F X Y D Stop cs Q s) : ∃ s', SgC P F X Y D Stop cs Q s' ∧ SgNext P s s' := by
  obtain ⟨d, hd⟩ : ∃ d, ∀ g' w' es, stepG P true (G s.f (s.r ++ cs)) (s.w.at d) = .go g' w' es → D s.w.heap.size w' es → ¬ GoesI P D Stop g' w' := by
    refine Classical.byContradiction fun hno => hi.no (.next rfl fun d => ?_)
    refine Classical.byContradiction fun hd => hno ⟨d, fun g' w' es h1 h2 h3 => hd ⟨g', w', es, h1, h2, h3⟩⟩
  let τ₁ : Nat → Question → Nat := fun p q => if p < s.u.drawn then s.u.tape p q else s.w.tape (d + (p - s.u.drawn)) q
  have hs : Sim X Y (s.w.at d) { s.u with tape := τ₁ } := hi.sim.re d s.u.drawn τ₁ fun i q => by
    show s.w.tape (d + i) q = if s.u.drawn + i < s.u.drawn then _ else _
    rw [if_neg (by omega), show s.u.drawn + i - s.u.drawn = i by omega]
  have hag : ∀ p, p < s.u.drawn → τ₁ p = s.u.tape p := fun p hp => by
    funext q
    show (if p < s.u.drawn then _ else _) = _
    rw [if_pos hp]
  obtain ⟨n, fz, v', hn, hzm, hq⟩ := hi.law τ₁ hag
  cases n with
  | zero => exact (sgC_end hK hi hn hzm hq).elim
  | succ n =>
    have mk : ∀ (f' : Frame) (r' : List Frame) (u₂ w₂ : World) (es : Array Event), TFr P F f' → (f'.mode = .run ∨ f'.mode = .returning) → Stack P F r' → Sim X Y w₂ u₂ → Tp P (G s.f (s.r ++ [f0])) { s.u with tape := τ₁ } (G f' (r' ++ [f0])) u₂ es →
        stepG P true (G s.f (s.r ++ cs)) (s.w.at d) = .go (G f' (r' ++ cs)) w₂ es → s.w.heap.size ≤ w₂.heap.size → EvsP X w₂ es → ∃ s', SgC P F X Y D Stop cs Q s' ∧ SgNext P s s' := fun f' r' u₂ w₂ es h1 h2 h3 h4 h5 h6 h8 h7 => by
      obtain ⟨t1, t2, t3⟩ := h5
      dsimp only at t1 t2 t3
      refine ⟨⟨f', r', u₂, w₂⟩, ⟨h1, h2, h3, h4.t, fun τ hτ => ?_, hd _ _ _ h6 (hD _ _ _ h8 h7)⟩, t2, fun p hp => by rw [t1]; exact hag p hp, fun τ hτ => ⟨es, t3 τ fun p hp1 hp2 => by rw [hτ p hp1 hp2, t1]⟩⟩
      dsimp only at hτ
      obtain ⟨n, fz, v', hn, hzm, hq⟩ := hi.law τ fun p hp => by rw [hτ p (by omega), t1]; exact hag p hp
      cases n with
      | zero => exact (sgC_end hK hi hn hzm hq).elim
      | succ n => exact ⟨n, fz, v', own_go (t3 τ fun p _ hp2 => by rw [hτ p hp2, t1]) hn, hzm, hq⟩
    rcases hi.mode with hm | hm
    · rcases tstep (cs := s.r ++ [f0]) hF hi.tf hm hs with ⟨o, v'', es', he⟩ | ⟨ch, v'', es', he⟩ | ⟨g', v'', es', w', he, htp, hs', hsz, hev, hway⟩
      · exact (own_end he hn).elim
      · exact absurd (own_go he hn) (dead_end2 (F := F) n _ s.r ch _ fz [f0] v' (stack_mem hi.stack) rfl ⟨hi.tf.fn, hi.tf.defers⟩ (fun ch e => by rw [hzm] at e; cases e))
      · cases hway with
        | @here f' hg hT' hm' hB =>
          subst hg
          refine mk f' s.r v'' w' es' hT' hm' hi.stack hs' htp ?_ hsz hev
          have := hB [] (s.r ++ cs) (fun _ => rfl)
          rw [extB_nil, extB_nil] at this
          exact this
        | @call e hg hTe hme hne hB =>
          subst hg
          refine mk e (s.f :: s.r) v'' w' es' hTe (.inl hme) ⟨⟨hi.tf, hm, hne.1, finish_ok hi.tf hm hne⟩, hi.stack⟩ hs' htp ?_ hsz hev
          have := hB [] (s.r ++ cs)
          rw [extB_nil] at this
          exact this
        | back _ _ hr _ => rw [hm] at hr; cases hr
    · cases hr : s.r with
      | nil =>
        rw [hr] at hn
        rcases tback (c := f0) (r := []) (F := F) hi.tf hm hs with ⟨o, v'', es', he⟩ | ⟨y, v'', es', w', he, _⟩
        · exact (own_end he hn).elim
        · exact absurd (own_go he hn) (f0_end n _ fz v')
      | cons c r =>
        have hS := hi.stack
        rw [hr] at hn hS mk
        rcases tback (c := c) (r := r ++ [f0]) (F := F) hi.tf hm hs with ⟨o, v'', es', he⟩ | ⟨y, v'', es', w', he, htp, hs', hsz, hev, hB⟩
        · exact (own_end he hn).elim
        · obtain ⟨hTc, hmc, _⟩ := hS.1.2.2.2 y
          exact mk (c.finish y) r v'' w' es' hTc (.inl hmc) hS.2 hs' htp (hB c (r ++ cs)) hsz hev

/-- ████ A callee's run up to its return, by its lone law on every tape. -/
theorem segC (hF : GoodF P F) (hD : Dok X D) {cs : List Frame} {Q : Frame → World → Prop} {f : Frame} (hT : TFr P F f) (hm : f.mode = .run) {v : World} (h : ∀ τ d, ∃ n fz v', ownN P n f [f0] { v with tape := τ, drawn := d } fz [f0] v' ∧ fz.mode = .returning ∧ Q fz v')
    {w : World} (hs : SimT X Y w v) (hK : ∀ fz v' w', TFr P F fz → fz.mode = .returning → Q fz v' → SimT X Y w' v' → GoesI P D Stop (G fz cs) w') : GoesI P D Stop (G f cs) w := by
  refine Classical.byContradiction fun hno => ?_
  have start : SgC P F X Y D Stop cs Q ⟨f, [], { v with drawn := 0 }, w⟩ := ⟨hT, .inl hm, trivial, hs.to v.tape 0, fun τ _ => h τ 0, hno⟩
  let nx : {s // SgC P F X Y D Stop cs Q s} → {s // SgC P F X Y D Stop cs Q s} := fun s => ⟨(sgC_next hF hD hK s.2).choose, (sgC_next hF hD hK s.2).choose_spec.1⟩
  have nxs : ∀ s, SgNext P s.1 (nx s).1 := fun s => (sgC_next hF hD hK s.2).choose_spec.2
  let q : Nat → {s // SgC P F X Y D Stop cs Q s} := fun n => Nat.rec ⟨_, start⟩ (fun _ s => nx s) n
  have qs : ∀ n, SgNext P (q n).1 (q (n + 1)).1 := fun n => nxs (q n)
  have mono : ∀ n m, n ≤ m → (q n).1.u.drawn ≤ (q m).1.u.drawn ∧ ∀ p, p < (q n).1.u.drawn → (q m).1.u.tape p = (q n).1.u.tape p := by
    intro n m hnm
    induction m with
    | zero =>
      obtain rfl : n = 0 := by omega
      exact ⟨Nat.le_refl _, fun _ _ => rfl⟩
    | succ m ih =>
      rcases Nat.lt_or_ge n (m + 1) with hlt | hge
      · obtain ⟨h1, h2⟩ := ih (by omega)
        have h3 := qs m
        exact ⟨Nat.le_trans h1 h3.1, fun p hp => (h3.2.1 p (by omega)).trans (h2 p hp)⟩
      · obtain rfl : n = m + 1 := by omega
        exact ⟨Nat.le_refl _, fun _ _ => rfl⟩
  have dec : ∀ p, Decidable (∃ n, p < (q n).1.u.drawn) := fun p => Classical.propDecidable _
  let τ : Nat → Question → Nat := fun p => if h : ∃ n, p < (q n).1.u.drawn then (q h.choose).1.u.tape p else fun _ => 0
  have agree : ∀ n p, p < (q n).1.u.drawn → τ p = (q n).1.u.tape p := fun n p hp => by
    have hex : ∃ n, p < (q n).1.u.drawn := ⟨n, hp⟩
    show (if h : ∃ n, p < (q n).1.u.drawn then (q h.choose).1.u.tape p else fun _ => 0) = _
    rw [dif_pos hex]
    have hc := hex.choose_spec
    rcases Nat.le_total n hex.choose with hle | hle
    · exact (mono n _ hle).2 p hp
    · exact ((mono _ n hle).2 p hc).symm
  have never : ∀ (m i : Nat) (fz : Frame) (v' : World), ownN P m (q i).1.f ((q i).1.r ++ [f0]) { (q i).1.u with tape := τ } fz [f0] v' → fz.mode = .returning → Q fz v' → False := by
    intro m
    induction m with
    | zero => exact fun i fz v' h hm hq => sgC_end hK (q i).2 h hm hq
    | succ m ih =>
      intro i fz v' h hm hq
      obtain ⟨es, he⟩ := (qs i).2.2 τ fun p _ hp => agree (i + 1) p hp
      exact ih (i + 1) fz v' (own_go he h) hm hq
  obtain ⟨n, fz, v', hn, hm, hq⟩ := (q 0).2.law τ fun p hp => agree 0 p hp
  exact never n 0 fz v' hn hm hq

variable {f : FuncId} {k : List Item} {cs : List Frame} {a : Act} {v : World} {ops : Array Oper} {i : Nat} {rest : List Nat} {o : Oper}

/-- A call by its contract. -/
theorem reaI_calls (hF : GoodF P F) (hD : Dok X D) {g : FuncId} (hg : GoodBody P F g) {args : Array Operand} {ats : Array TypeId} {vs : Array Value} {R : Value → World → Prop} (ho : ops[i]? = some o) (hw : Region.wanted o (yielded ops a.tmps) = true) (hop : o.op = .call { callee := .value (.func g), args, argTypes := ats }) (hvs : args.map a.eval = vs) (hsz : vs.size ≤ arity P g)
    (hc : ∀ τ d, Calls P g vs { v with tape := τ, drawn := d } fun e v' => ∃ y, e = .returned y ∧ R y v') (h : ∀ y v', R y v' → ReaI P X Y D Stop f cs (.inRegion ops rest :: k) (a.put o.dst y) v') : ReaI P X Y D Stop f cs (.inRegion ops (i :: rest) :: k) a v := by
  subst hvs
  intro w hs
  obtain ⟨fn1, c1, S1, g1, g2, g3, g4, g5⟩ := id hg
  refine .next rfl fun d => ?_
  obtain ⟨g1', w1', es1, hgo, rfl, rfl, rfl⟩ := goes_elim (goes_call (P := P) (main := true) (b := base f) (a := a) (k := k) (cs := cs) (w := w.at d) (rest := rest) (K := fun g1 w1 es => g1 = G ((base g).at { tmps := args.map a.eval ++ Array.replicate (fn1.ntmps - (args.map a.eval).size) undef, defers := [] } [.code c1]) ((base f).at a (.inRegion ops (i :: rest) :: k) :: cs) ∧ w1 = w.at d ∧ es = #[]) ho hw (by intro h; cases h) hop g1 g2 g3 ⟨rfl, rfl, rfl⟩)
  refine ⟨_, _, _, hgo, hD.nil (Nat.le_refl _), ?_⟩
  have e0 : G ((base g).at { tmps := args.map a.eval ++ Array.replicate (fn1.ntmps - (args.map a.eval).size) undef, defers := [] } [.code c1]) ((base f).at a (.inRegion ops (i :: rest) :: k) :: cs) = G (Frame.enter P g (args.map a.eval) .normal) ((base f).at a (.inRegion ops (i :: rest) :: k) :: cs) := by rw [← enter_at _ g1 g3]
  rw [e0]
  refine segC (Q := fun fr v' => ∃ y, R y v' ∧ fr.defers = [] ∧ fr.kind = .normal ∧ ∃ fn, P.funcs[fr.fn]? = some fn ∧ (results fn fr.tmps).run P v' = .ok y v') hF hD (tfr_enter hg hsz) rfl (fun τ d' => ?_) (hs.at d) (fun fz v' w' hT hzm hQ hs' => ?_)
  · obtain ⟨e, v', fr, ⟨y, rfl, hR⟩, hcomes, hfn, hlv⟩ := hc τ d' [f0]
    obtain ⟨n, hn⟩ : Steps P (lone (Frame.enter P g (args.map a.eval) .normal) [f0] { v with tape := τ, drawn := d' }) (lone fr [f0] v') := hcomes
    obtain ⟨hm, hd, hk, fn, hf, hr⟩ := hlv
    exact ⟨n, fr, v', hn, hm, y, hR, hd, hk, fn, hf, hr⟩
  · obtain ⟨y, hR, hd, hk, fn, hf, hr⟩ := hQ
    refine .next rfl fun d => ?_
    obtain ⟨τ0, d0, hs0⟩ := hs'
    have hsim : Sim X Y (w'.at d) { v' with tape := fun p => w'.tape (d + (p - v'.drawn)) } := SimT.re ⟨τ0, d0, hs0⟩ d v'.drawn _ fun i q => by
      show w'.tape (d + i) q = w'.tape (d + (v'.drawn + i - v'.drawn)) q
      rw [Nat.add_sub_cancel_left]
    obtain ⟨_, _, ht3⟩ := tape_run (results fn fz.tmps) v' #[] y v' ((results fn fz.tmps).events P v' #[]) (plain_results fn fz.tmps) hs0.nv (by rw [Sem.runT_eq, hr])
    have hr2 := ht3 (fun p => w'.tape (d + (p - v'.drawn))) (fun p h1 h2 => absurd h2 (by omega))
    obtain ⟨w3, h1, h2, h3, h4⟩ := sim_run (results fn fz.tmps) (w'.at d) _ #[] y _ _ (plain_results fn fz.tmps) hsim hr2
    refine ⟨G ((base f).at (a.put o.dst y) (.inRegion ops rest :: k)) cs, w3, seen P fz.fn ((results fn fz.tmps).events P v' #[]), ?_, hD _ _ _ (Nat.le_of_eq (hsim.size.trans h2.size.symm)) (fun e he => (h4 e (mem_seen he)).resolve_left (by simp)), h y v' hR w3 ⟨_, _, h2⟩⟩
    have eF : ((base f).at a (.inRegion ops (i :: rest) :: k)).finish y = (base f).at (a.put o.dst y) (.inRegion ops rest :: k) := by
      simp only [Frame.finish, Frame.at, ho, Option.bind_some, Act.put]
      cases o.dst <;> rfl
    obtain ⟨fnx, tmps, todo, defers, mode, kind, round⟩ := fz
    dsimp only at hzm hd hk hf hr h1 h4
    subst hzm hd hk
    show stepG P true _ (w'.at d) = _
    simp only [G, stepG, unwind, hf, h1, doReturn, GStep.after]
    rw [eF]
    rfl

/-- A region draws its order. -/
theorem reaI_draw (hD : Dok X D) {id : Nat} (h : ∀ t, ReaI P X Y D Stop f cs (.inRegion ops (Region.schedule (P.follows .mixedOrders) ops t) :: k) a v) : ReaI P X Y D Stop f cs (.code (.region id ops true) :: k) a v := by
  intro w hs
  have hc : ∀ u : World, (choose (.order f id)).run P u = .ok (u.tape u.drawn (.order f id)) { u with drawn := u.drawn + 1 } := fun u => rfl
  refine .next rfl fun d => ⟨_, (w.at (d + 1)), #[], ?_, hD.nil (Nat.le_refl _), h (w.tape d (.order f id)) _ (hs.at (d + 1))⟩
  simp only [G, base, Frame.at, stepG, stepG.exec, Bool.not_true, Bool.false_eq_true, if_false, hc]
  rfl
end
#print axioms reaI_calls
end Go.Lf

/-
  The program's sync.WaitGroup is the library's; the payload's cells are lists of bytes.
-/
namespace Go.Proofs.YtlghjjennhpjeaaGreatDoor
abbrev link : Go.Conc.Lib.WgLink := { add := 78, done := 80, wait := 82, relMerge := 97, disable := 98, enable := 99, inBubble := 100, associate := 101, fatal := 102, uOr := 103, uAdd := 104, raceRead := 105, uLoad := 106, uStore := 107, disassociate := 108, semrelease := 109, acquire := 111, isAssociated := 112, uCas := 113, raceWrite := 114, semacquire := 115, orU64 := 125, addU64 := 126, loadU64 := 127, storeU64 := 128, casU64 := 129, tWgP := 181, tUP := 123, tAssoc := 183, tWg := 159, tAU := 156, tU64 := 154, tUint := 186, tU32 := 157, tPU32 := 187, tPAU := 199, tPU64 := 201, tNoCopy := 151, tANoCopy := 152, tAlign64 := 153 }
theorem wgLib : Go.Conc.Lib.WgLib Tryz.prog link :=
  ⟨Tryz.func78, Tryz.func80, Tryz.func82, Tryz.func97, Tryz.func98, Tryz.func99, Tryz.func100, Tryz.func101, Tryz.func102, Tryz.func103, Tryz.func104, Tryz.func105, Tryz.func106, Tryz.func107, Tryz.func108, Tryz.func109, Tryz.func111, Tryz.func112, Tryz.func113, Tryz.func114, Tryz.func115, Tryz.func125, Tryz.func126, Tryz.func127, Tryz.func128, Tryz.func129, Tryz.underlying181, Tryz.runUnderlying181, Tryz.sizeOf181, Tryz.isAgg181, Tryz.zeroValue181, Tryz.underlying123, Tryz.runUnderlying123, Tryz.sizeOf123, Tryz.isAgg123, Tryz.zeroValue123, Tryz.underlying183, Tryz.runUnderlying183, Tryz.sizeOf183, Tryz.isAgg183, Tryz.zeroValue183, Tryz.underlying159, Tryz.runUnderlying159, Tryz.sizeOf159, Tryz.isAgg159, Tryz.zeroValue159, Tryz.underlying156, Tryz.runUnderlying156, Tryz.sizeOf156, Tryz.isAgg156, Tryz.zeroValue156, Tryz.underlying154, Tryz.runUnderlying154, Tryz.sizeOf154, Tryz.isAgg154, Tryz.zeroValue154, Tryz.underlying186, Tryz.runUnderlying186, Tryz.sizeOf186, Tryz.isAgg186, Tryz.zeroValue186, Tryz.underlying157, Tryz.runUnderlying157, Tryz.sizeOf157, Tryz.isAgg157, Tryz.zeroValue157, Tryz.underlying187, Tryz.runUnderlying187, Tryz.sizeOf187, Tryz.isAgg187, Tryz.zeroValue187, Tryz.underlying199, Tryz.runUnderlying199, Tryz.sizeOf199, Tryz.isAgg199, Tryz.zeroValue199, Tryz.underlying201, Tryz.runUnderlying201, Tryz.sizeOf201, Tryz.isAgg201, Tryz.zeroValue201, Tryz.underlying0, Tryz.runUnderlying0, Tryz.sizeOf0, Tryz.isAgg0, Tryz.zeroValue0, Tryz.underlying3, Tryz.runUnderlying3, Tryz.sizeOf3, Tryz.isAgg3, Tryz.zeroValue3, Tryz.underlying4, Tryz.runUnderlying4, Tryz.sizeOf4, Tryz.isAgg4, Tryz.zeroValue4, Tryz.underlying9, Tryz.runUnderlying9, Tryz.sizeOf9, Tryz.isAgg9, Tryz.zeroValue9, Tryz.underlying20, Tryz.runUnderlying20, Tryz.sizeOf20, Tryz.isAgg20, Tryz.zeroValue20, Tryz.underlying21, Tryz.runUnderlying21, Tryz.sizeOf21, Tryz.isAgg21, Tryz.zeroValue21, (by kernel_rfl), (by kernel_rfl)⟩
theorem nm_reb1 : (Tryz.f79.name == "runtime.NumGoroutine") = false := by kernel_rfl
end Go.Proofs.YtlghjjennhpjeaaGreatDoor

/-
  In company: what any worker that lays one new row of bytes into its place is about.
-/
namespace Go.Proofs.YtlghjjennhpjeaaGreatDoor
open Go.Conc Go.ConcN Go.RowKit Go.Gh Go.Conc.Lib Go.ConcR.Gen Go.ConcN.Gen
open Go.ConcR (Payload)

/-- Take operation number i first. -/

theorem anyX_one_k {P : Program} {main : Bool} {R : World → World → Prop} {D : World → World → Array Event → Prop} {fn : FuncId} {ops : Array Oper} {Q : Exit → Act → World → Prop} {S : World → Prop} {nf lst i k : Nat} {l : Array Bool} {a : Act} {w : World} {o : Oper}
    (hr : Region.ready .any ops l = [i]) (ho : ops[i]? = some o) (hw : Region.wanted o (yielded ops a.tmps) = true)
    (h : ∀ w₁, R w w₁ → ∀ K : Act → World → Prop, (∀ a' w', (D w₁ w' (listed P fn a o w₁) ∧ (i ≠ lst → S w') ∧ AnyX P main R D fn ops nf Q S lst k (l.setIfInBounds i true) a' w') → K a' w') → uponK o a K ((execOp a.eval o).run P w₁)) : AnyX P main R D fn ops nf Q S lst (k + 1) l a w :=
  anyX_one hr ⟨o, ho, .inl ⟨hw, fun w₁ r => h w₁ r _ fun _ _ x => x⟩⟩

section
variable [Payload] [OldG] {main : Bool} {Wg C n B : Nat} {Cl : Nat → Prop}

omit [Payload] in
theorem Bs.rdb_lt {w : World} (h : Bs C B w) {b : Nat} (hb : Rdb Wg C B w b) : b < w.heap.size := hb.elim (h.lt ·) fun x => Nat.lt_of_lt_of_le x.1 h.hB
omit [OldG] in
/-- To write one's own cell of the payload. -/
theorem cell_set {w : World} (hp : PayAt C n w) {i : Nat} (hi : i < n) (v : Value) : Has C i v (w.setCell ⟨C, i, none⟩ v) := by
  obtain ⟨arr, h1, h2⟩ := hp
  simp [Has, World.cell?, heap_set w h1, h2, hi]
theorem dg_cell {w : World} (hp : PayAt C n w) (hC : C < w.heap.size) {i : Nat} (hi : Cl i) (v : Value) {es : Array Event} (he : ∀ e ∈ es, ∃ wr, e = ⟨.cell ⟨C, i, none⟩, wr, false⟩) : Dg Wg C n B Cl w (w.setCell ⟨C, i, none⟩ v) es := by
  obtain ⟨arr, h1, h2⟩ := hp
  refine ⟨by rw [sz_set]; omega, rfl, rfl, fun b _ _ hb => Below.heap_setCell _ _ _ _ hb, fun j hj => ?_, fun _ => ⟨_, heap_set w h1 i v, by simpa using h2⟩, fun e he' => ?_⟩
  · simp only [World.cell?, heap_set w h1, h1]
    rw [Array.getElem?_setIfInBounds_ne (fun e : i = j => hj (e ▸ hi))]
  · obtain ⟨wr, rfl⟩ := he e he'
    exact ⟨_, wr, rfl, by rw [sz_set]; exact hC, .inr (.inr (.inl ⟨i, rfl, hi⟩))⟩

/-- What the worker leaves: a new row of bytes. -/
def WPr (C L : Nat) (res : Nat → List Nat) (idx : Nat) (v : Value) (w : World) : Prop := ∃ N, v = .slice (some ⟨N, 0, none⟩) L L ∧ Mine w N ∧ N ≠ C ∧ w.heap[N]? = some (.cells (bytesA (res idx)) 5)
omit [OldG] in
theorem WPr.rely {w w₁ : World} {L idx : Nat} {res : Nat → List Nat} {v : Value} (h : WPr C L res idx v w) (r : Ro Wg C n B Cl w w₁) : WPr C L res idx v w₁ := by
  obtain ⟨N, h1, h2, h3, h4⟩ := h
  exact ⟨N, h1, (r.mineAt _).2 h2, h3, (r.mine _ h2).trans h4⟩

/-- The worker has written its cell. -/
structure WD1 (C L : Nat) (res : Nat → List Nat) (idx : Nat) (v : Value) (w : World) : Prop where
  wp : WPr C L res idx v w
  has : Has C idx v w
omit [OldG] in
theorem WD1.rely {w w₁ : World} {L idx : Nat} {res : Nat → List Nat} {v : Value} (h : WD1 C L res idx v w) (r : Ro Wg C n B (· = idx) w w₁) : WD1 C L res idx v w₁ := ⟨h.wp.rely r, (r.cell idx rfl).trans h.has⟩

end
end Go.Proofs.YtlghjjennhpjeaaGreatDoor

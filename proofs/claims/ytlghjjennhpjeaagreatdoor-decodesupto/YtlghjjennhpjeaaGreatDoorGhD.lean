/-
  The model's field 'output' is read and written by nothing: a step of a goroutine is the same whatever lies there, and leaves it. So it can bear a goroutine's own book on the blocks that it made.
-/
import GoSem.Machine.Exec
import Derived.Conc.Beside
import Derived.Conc.CrowdStepC2
namespace Go.Gh

def _root_.Go.World.out (w : World) (x : Array (Nat × ByteArray)) : World := { w with output := x }
def _root_.Go.Result.out {α : Type} (r : Result α) (x : Array (Nat × ByteArray)) : Result α :=
  match r with
  | .ok a w => .ok a (w.out x)
  | .halt h w => .halt h (w.out x)
def _root_.Go.GStep.out (s : GStep) (x : Array (Nat × ByteArray)) : GStep :=
  match s with
  | .go g w es => .go g (w.out x) es
  | .comm g c b sh w es => .comm g c b sh (w.out x) es
  | .spawn g c w es => .spawn g c (w.out x) es
  | .count g w es => .count g (w.out x) es
  | .timer g o w es => .timer g o (w.out x) es
  | .alone g o w es => .alone g o (w.out x) es
  | .newcoro g c d w es => .newcoro g c d (w.out x) es
  | .coroswitch g c e w es => .coroswitch g c e (w.out x) es
  | .collect g w es => .collect g (w.out x) es
  | .watch g w es => .watch g (w.out x) es
  | .ended o w es => .ended o (w.out x) es

section
variable (w : World) (x : Array (Nat × ByteArray))
@[simp] theorem cell?_out (a : Addr) : (w.out x).cell? a = w.cell? a := rfl
@[simp] theorem shape?_out (r : Nat) : (w.out x).shape? r = w.shape? r := rfl
@[simp] theorem frozen?_out (a : Addr) : (w.out x).frozen? a = w.frozen? a := rfl
@[simp] theorem setCell_out (a : Addr) (v : Value) : (w.out x).setCell a v = (w.setCell a v).out x := rfl
theorem freeze_out (a : Addr) (n : Nat) : (w.out x).freeze a n = (w.freeze a n).out x := by
  unfold World.freeze; split <;> rfl
@[simp] theorem heap_out : (w.out x).heap = w.heap := rfl
@[simp] theorem tape_out : (w.out x).tape = w.tape := rfl
@[simp] theorem drawn_out : (w.out x).drawn = w.drawn := rfl
@[simp] theorem os_out : (w.out x).os = w.os := rfl
theorem noCell_out (a : Addr) (s : String) : (w.out x).noCell a s = w.noCell a s := rfl
theorem farLoad_out (p : Program) (a : Addr) (b : Bool) : (w.out x).farLoad p a b = w.farLoad p a b := rfl
theorem viewStore_out (p : Program) (at_ : Addr) (u : TypeId) (k : Addr) (v : Value) (b : Bool) :
    (w.out x).viewStore p at_ u k v b = (w.viewStore p at_ u k v b).map fun (w', t) => (w'.out x, t) := by
  unfold World.viewStore
  have e : (w.out x).seen p at_ u k b = w.seen p at_ u k b := rfl
  rw [e]
  cases (!tight p p.depth u)
  · simp only [Bool.false_eq_true, if_false]
    cases w.seen p at_ u k b with
    | error y => rfl
    | ok y =>
      obtain ⟨c, e, fz, first, like, cells⟩ := y
      simp only [bind, Except.bind, pure, Except.pure]
      cases v.bytes? with
      | none => rfl
      | some bs =>
        simp only
        split
        · rfl
        · split <;> rfl
  · rfl
theorem farStore_out (p : Program) (a : Addr) (v : Value) (b : Bool) : (w.out x).farStore p a v b = (w.farStore p a v b).map fun (w', t) => (w'.out x, t) := by
  unfold World.farStore
  simp only [heap_out]
  split
  · rw [viewStore_out]
    cases w.viewStore p _ _ a v b <;> rfl
  · rfl

theorem ask_out {α : Type} (k : Ask α) : ∀ w : World, (w.out x).ask k = ((w.ask k).1, (w.ask k).2.out x) := by
  induction k with
  | done a => intro w; rfl
  | ask what range k ih =>
    intro w
    simp only [World.ask]
    split
    · exact ih 0 w
    · exact ih _ { w with drawn := w.drawn + 1 }

theorem sys_out (c : Sys) : (w.out x).sys c = ((w.sys c).1, (w.sys c).2.out x) := by
  unfold World.sys
  rw [ask_out]
  simp only [os_out]
  generalize w.ask (Kernel.perform c w.os) = q
  obtain ⟨⟨r, os⟩, w'⟩ := q
  cases r <;> rfl

theorem run_out {α : Type} (p : Program) (s : Sem α) : ∀ w : World, s.run p (w.out x) = (s.run p w).out x := by
  induction s with
  | pure a => intro w; rfl
  | load m a k ih =>
    intro w
    simp only [Sem.run, cell?_out]
    split
    · exact ih _ w
    · rw [farLoad_out]
      split
      · exact ih _ w
      · rfl
  | store m a v k ih =>
    intro w
    have key : (match (w.out x).cell? a with
      | some _ => if (w.out x).frozen? a then .halt (.unsupported (.unsafePointer "a write to bytes that a string shares")) (w.out x) else k.run p ((w.out x).setCell a v)
      | none => match (w.out x).farStore p a v (m == .atomic) with
        | .ok (w, _) => k.run p w
        | .error h => .halt h (w.out x)) = ((match w.cell? a with
      | some _ => if w.frozen? a then .halt (.unsupported (.unsafePointer "a write to bytes that a string shares")) w else k.run p (w.setCell a v)
      | none => match w.farStore p a v (m == .atomic) with
        | .ok (w, _) => k.run p w
        | .error h => .halt h w : Result α)).out x := by
      simp only [cell?_out, setCell_out]
      split
      · by_cases hz : w.frozen? a = true
        · rw [if_pos (show (w.out x).frozen? a = true from hz), if_pos hz]; rfl
        · rw [if_neg (show ¬ (w.out x).frozen? a = true from hz), if_neg hz]; exact ih _
      · rw [farStore_out]
        cases w.farStore p a v (m == .atomic) with
        | error h => rfl
        | ok y => exact ih _
    cases v <;> first | exact key | rfl
  | new o k ih => intro w; exact ih w.heap.size { w with heap := w.heap.push o }
  | shape r k ih => intro w; exact ih _ _
  | freeze a n k ih => intro w; simp only [Sem.run, freeze_out]; exact ih _
  | frozen a k ih => intro w; exact ih _ _
  | getObj r k ih =>
    intro w
    simp only [Sem.run, heap_out]
    split
    · rfl
    · exact ih _ _
    · rfl
  | setObj r o k ih =>
    intro w
    simp only [Sem.run, heap_out]
    split
    · rfl
    · exact ih { w with heap := w.heap.setIfInBounds r o }
    · rfl
  | choose q k ih =>
    intro w
    simp only [Sem.run, tape_out, drawn_out]
    split
    · exact ih _ _
    · exact ih _ { w with drawn := w.drawn + 1 }
  | sys c k ih =>
    intro w
    simp only [Sem.run, sys_out]
    exact ih _ _
  | program k ih => intro w; exact ih _ _
  | mark m k ih => intro w; exact ih _
  | halt h => intro w; rfl

theorem runT_out {α : Type} (p : Program) (s : Sem α) : ∀ (w : World) (es : Array Event), s.runT p (w.out x) es = ((s.runT p w es).1.out x, (s.runT p w es).2) := by
  induction s with
  | pure a => intro w es; rfl
  | load m a k ih =>
    intro w es
    simp only [Sem.runT, cell?_out]
    split
    · exact ih _ w _
    · rw [farLoad_out]
      split
      · exact ih _ w _
      · rfl
  | store m a v k ih =>
    intro w es
    have key : (match (w.out x).cell? a with
      | some _ => if (w.out x).frozen? a then (.halt (.unsupported (.unsafePointer "a write to bytes that a string shares")) (w.out x), es) else k.runT p ((w.out x).setCell a v) (es.push ⟨.cell a, true, m == .atomic⟩)
      | none => match (w.out x).farStore p a v (m == .atomic) with
        | .ok (w, touched) => k.runT p w (es ++ touched.toArray.map (⟨.cell ·, true, m == .atomic⟩))
        | .error h => (.halt h (w.out x), es)) = ((match w.cell? a with
      | some _ => if w.frozen? a then (.halt (.unsupported (.unsafePointer "a write to bytes that a string shares")) w, es) else k.runT p (w.setCell a v) (es.push ⟨.cell a, true, m == .atomic⟩)
      | none => match w.farStore p a v (m == .atomic) with
        | .ok (w, touched) => k.runT p w (es ++ touched.toArray.map (⟨.cell ·, true, m == .atomic⟩))
        | .error h => (.halt h w, es) : Result α × Array Event).1.out x, (match w.cell? a with
      | some _ => if w.frozen? a then (.halt (.unsupported (.unsafePointer "a write to bytes that a string shares")) w, es) else k.runT p (w.setCell a v) (es.push ⟨.cell a, true, m == .atomic⟩)
      | none => match w.farStore p a v (m == .atomic) with
        | .ok (w, touched) => k.runT p w (es ++ touched.toArray.map (⟨.cell ·, true, m == .atomic⟩))
        | .error h => (.halt h w, es) : Result α × Array Event).2) := by
      simp only [cell?_out, setCell_out]
      split
      · by_cases hz : w.frozen? a = true
        · rw [if_pos (show (w.out x).frozen? a = true from hz), if_pos hz]; rfl
        · rw [if_neg (show ¬ (w.out x).frozen? a = true from hz), if_neg hz]; exact ih _ _
      · rw [farStore_out]
        cases w.farStore p a v (m == .atomic) with
        | error h => rfl
        | ok y => exact ih _ _
    cases v <;> first | exact key | rfl
  | new o k ih => intro w es; exact ih w.heap.size { w with heap := w.heap.push o } es
  | shape r k ih => intro w es; exact ih _ _ _
  | freeze a n k ih => intro w es; simp only [Sem.runT, freeze_out]; exact ih _ _
  | frozen a k ih => intro w es; exact ih _ _ _
  | getObj r k ih =>
    intro w es
    simp only [Sem.runT, heap_out]
    split
    · rfl
    · exact ih _ _ _
    · rfl
  | setObj r o k ih =>
    intro w es
    simp only [Sem.runT, heap_out]
    split
    · rfl
    · exact ih { w with heap := w.heap.setIfInBounds r o } _
    · rfl
  | choose q k ih =>
    intro w es
    simp only [Sem.runT, tape_out, drawn_out]
    split
    · exact ih _ _ _
    · exact ih _ { w with drawn := w.drawn + 1 } _
  | sys c k ih =>
    intro w es
    simp only [Sem.runT, sys_out]
    exact ih _ _ _
  | program k ih => intro w es; exact ih _ _ _
  | mark m k ih => intro w es; exact ih _ _
  | halt h => intro w es; rfl
end
end Go.Gh

/-
  A goroutine's own step is the same whatever lies in the world's field 'output', and leaves it.
-/
namespace Go.Gh

section
variable (p : Program) (x : Array (Nat × ByteArray))

theorem after_out (es : Array Event) (s : GStep) : (GStep.after es s).out x = GStep.after es (s.out x) := by cases s <;> rfl
theorem res_out {α : Type} {r : Result α} : r.out x = (match r with | .ok a w => .ok a (w.out x) | .halt h w => .halt h (w.out x)) := rfl

theorem dieOf_out (fr : Frame) (l : List ByteArray) (m : String) (b : Bool) (w : World) : dieOf fr l m b (w.out x) = (dieOf fr l m b w).out x := rfl
theorem endThrow_out (fr : Frame) (m : String) (w : World) : endThrow fr m (w.out x) = (endThrow fr m w).out x := rfl
theorem endPrinting_out (fr : Frame) (v : Value) (w : World) : endPrinting p fr v (w.out x) = (endPrinting p fr v w).out x := by
  unfold endPrinting; dsimp only; split <;> rfl
theorem endFatal_out (fr : Frame) (cs : List Frame) (d : Option Dying) (m : String) (w : World) : endFatal p fr cs d m (w.out x) = (endFatal p fr cs d m w).out x := by
  unfold endFatal
  dsimp only
  rw [run_out]
  generalize Sem.run p _ w = r
  cases r with
  | ok a w => rfl
  | halt h w => cases h <;> rfl
theorem endWith_out (w : World) (fd : Nat) (t : ByteArray) (o : Outcome) : endWith (w.out x) fd t o = (endWith w fd t o).out x := by
  unfold endWith
  rw [sys_out]
  generalize w.sys (.write fd t) = q
  obtain ⟨r, w'⟩ := q
  cases r <;> (dsimp only; try split) <;> rfl

theorem writeOn_out (fr : Frame) (d : Dying) (f : Fatal) (w : World) : writeOn p fr d f (w.out x) = (writeOn p fr d f w).out x := by
  unfold writeOn
  dsimp only
  split
  · rfl
  · rw [runT_out]
    generalize Sem.runT p _ w #[] = r
    obtain ⟨r, es⟩ := r
    cases r with
    | ok a w => rfl
    | halt h w => cases h <;> rfl
theorem die_out (fr : Frame) (d : Dying) (w : World) : die p fr d (w.out x) = (die p fr d w).out x := by
  unfold die
  split
  · exact writeOn_out p x _ _ _ _
  · split
    · show (if printLockHeld p w then _ else _) = _
      split
      · rfl
      · exact endWith_out x _ _ _ _
    · dsimp only
      split
      · rfl
      · rw [run_out]
        generalize Sem.run p _ w = r
        cases r <;> rfl
      · rw [runT_out]
        generalize Sem.runT p _ w #[] = r
        obtain ⟨r, es⟩ := r
        dsimp only
        rw [after_out]
        congr 1
        cases r with
        | ok a w =>
          cases a <;> try rfl
          rename_i v
          cases v <;> rfl
        | halt h w => cases h <;> first | rfl | exact endPrinting_out p x _ _ _
      · rfl
theorem doReturn_out (main : Bool) (fr : Frame) (cs : List Frame) (d : Option Dying) (v : Value) (w : World) : doReturn p main fr cs d v (w.out x) = (doReturn p main fr cs d v w).out x := by
  unfold doReturn
  cases cs with
  | cons c rest => dsimp only; cases fr.kind <;> rfl
  | nil =>
    dsimp only
    split
    · rfl
    · rfl
    · split
      · rfl
      · split <;> rfl
theorem found_out (w : World) : ∀ (n : Nat) (f : FuncId), p.found (w.out x) n f = p.found w n f
  | 0, _ => rfl
  | n + 1, f => by
    unfold Program.found
    simp only [found_out w n]
    rfl
theorem brought_out (w : World) : ∀ (n : Nat) (l s : List FuncId), p.brought (w.out x) n l s = p.brought w n l s
  | 0, _, _ => rfl
  | n + 1, [], s => rfl
  | n + 1, f :: l, s => by
    unfold Program.brought
    simp only [brought_out w n]
    rfl
theorem early_out (fr : Frame) (cs : List Frame) (d : Option Dying) (g : Nat) (w : World) : early p fr cs d g (w.out x) = (early p fr cs d g w).out x := by
  have ny : ∀ w : World, (match (w.out x).heap[g]? with
    | some (.pending c elem) => (.go { frame := fr, callers := cs, status := .running, dying := d } { w.out x with heap := (w.out x).heap.setIfInBounds g (.cells c elem) } : GStep)
    | _ => .ended (.stuck "early: the variable does not wait" (fr.pos p)) (w.out x)) = (match w.heap[g]? with
    | some (.pending c elem) => (.go { frame := fr, callers := cs, status := .running, dying := d } { w with heap := w.heap.setIfInBounds g (.cells c elem) } : GStep)
    | _ => .ended (.stuck "early: the variable does not wait" (fr.pos p)) w).out x := by
    intro w
    simp only [heap_out]
    split <;> rfl
  unfold early
  dsimp only
  simp only [found_out, brought_out]
  split
  · exact ny w
  · split
    · rfl
    · split
      · exact ny w
      · split
        · rename_i h; rw [if_pos (show (((p.code? _).bind fun c => (readies c).getLast?).bind w.shape?).isSome = true from h)]; exact ny w
        · rename_i h; rw [if_neg (show ¬ (((p.code? _).bind fun c => (readies c).getLast?).bind w.shape?).isSome = true from h)]
          split
          · rfl
          · rfl
          · rfl
          · exact ny w
          · split
            · rfl
            · split
              · exact ny w
              · rw [run_out]
                generalize Sem.run p _ w = r
                cases r with
                | ok a w => cases a <;> first | exact ny w | (dsimp only [Result.out]; rfl)
                | halt h w => rfl
end
end Go.Gh

/-
  A goroutine's own step is the same whatever lies in the world's field 'output': the deferred calls, the return, the operations.
-/
namespace Go.Gh

section
variable (p : Program) (x : Array (Nat × ByteArray))

theorem ite_out {c : Prop} [Decidable c] {a b a' b' : GStep} (h : a' = a.out x) (h' : b' = b.out x) : (if c then a' else b') = (if c then a else b).out x := by
  by_cases hc : c
  · rw [if_pos hc, if_pos hc]; exact h
  · rw [if_neg hc, if_neg hc]; exact h'

set_option maxHeartbeats 400000 in
theorem callDeferred_out (fr : Frame) (cs : List Frame) (d : Option Dying) (c : Deferred) (w : World) : callDeferred p fr cs d c (w.out x) = (callDeferred p fr cs d c w).out x := by
  unfold callDeferred
  refine ite_out x rfl ?_
  rw [runT_out]
  generalize Sem.runT p _ w #[] = r
  obtain ⟨r, es⟩ := r
  dsimp only
  rw [after_out]
  cases r with
  | ok a w =>
    dsimp only [Result.out]
    refine congrArg _ ?_
    cases a with
    | recover => dsimp only; split <;> rfl
    | alone b v => cases b <;> rfl
    | coroswitch c e => cases e <;> rfl
    | _ => rfl
  | halt h w =>
    cases h with
    | fatal m => exact congrArg _ (endFatal_out p x _ _ _ _ _)
    | throw m => exact congrArg _ (endThrow_out x _ _ _)
    | _ => rfl

set_option maxHeartbeats 400000 in
theorem unwind_out (main : Bool) (fr : Frame) (cs : List Frame) (d : Option Dying) (w : World) : unwind p main fr cs d (w.out x) = (unwind p main fr cs d w).out x := by
  unfold unwind
  split
  · rw [runT_out]
    generalize Sem.runT p _ w #[] = r
    obtain ⟨r, es⟩ := r
    dsimp only
    rw [after_out]
    cases r <;> rfl
  · exact callDeferred_out p x _ _ _ _ _
  · cases fr.mode with
    | run => rfl
    | panicking chain =>
      refine ite_out x rfl ?_
      cases cs with
      | cons c rest => rfl
      | nil =>
        cases d with
        | none =>
          refine ite_out x rfl ?_
          rw [run_out]
          generalize Sem.run p _ w = r
          cases r with
          | ok a w => rfl
          | halt h w => cases h <;> rfl
        | some d =>
          dsimp only
          split
          · exact endPrinting_out p x _ _ _
          · rfl
    | returning =>
      dsimp only
      split
      · exact doReturn_out p x _ _ _ _ _ _
      · rw [runT_out]
        generalize Sem.runT p _ w #[] = r
        obtain ⟨r, es⟩ := r
        dsimp only
        rw [after_out]
        cases r with
        | ok a w => exact congrArg _ (doReturn_out p x _ _ _ _ _ _)
        | halt h w => cases h <;> rfl

set_option maxHeartbeats 400000 in
theorem apply_out (listen : Bool) (fr : Frame) (cs : List Frame) (d : Option Dying) (s : Sem Next) (w : World) : stepG.apply p listen fr cs d s (w.out x) = (stepG.apply p listen fr cs d s w).out x := by
  unfold stepG.apply
  have e : (if listen = true then s.runT p (w.out x) #[] else (s.run p (w.out x), #[])) = ((if listen = true then s.runT p w #[] else (s.run p w, #[])).1.out x, (if listen = true then s.runT p w #[] else (s.run p w, #[])).2) := by
    cases listen
    · simp only [Bool.false_eq_true, if_false, run_out]
    · simp only [if_true, runT_out]
  rw [e]
  generalize (if listen = true then s.runT p w #[] else (s.run p w, #[])) = r
  obtain ⟨r, es⟩ := r
  dsimp only
  rw [after_out]
  cases r with
  | ok a w =>
    dsimp only [Result.out]
    refine congrArg _ ?_
    cases a with
    | callThen d r s wr => dsimp only; split <;> rfl
    | row r as => dsimp only; split <;> rfl
    | stack r s => dsimp only; split <;> rfl
    | recover => dsimp only; split <;> rfl
    | spawn d => exact ite_out x rfl rfl
    | _ => rfl
  | halt h w =>
    cases h with
    | fatal m => exact congrArg _ (endFatal_out p x _ _ _ _ _)
    | throw m => exact congrArg _ (endThrow_out x _ _ _)
    | unsupported u =>
      cases u with
      | initOrder g => exact congrArg _ (early_out p x _ _ _ _ _)
      | _ => rfl
    | _ => rfl

theorem oper_out (listen : Bool) (fr : Frame) (cs : List Frame) (d : Option Dying) (w : World) : stepG.oper p listen fr cs d (w.out x) = (stepG.oper p listen fr cs d w).out x := by
  unfold stepG.oper
  cases fr.oper? with
  | none => rfl
  | some o =>
    dsimp only
    split <;> exact apply_out p x _ _ _ _ _ _


/-- The way out of a frame. -/
def leaveG (main : Bool) (fr : Frame) (cs : List Frame) (d : Option Dying) (w : World) (jump : Option Code) : GStep :=
  match fr.roundOf with
  | none => if jump matches none | some .ret then .go { frame := { fr with mode := .returning }, callers := cs, status := .running, dying := d } w else .ended (.stuck "exit, goto: no such block or label" (fr.pos p)) w
  | some l =>
    let (r, es) := (Instr.endRound l jump).runT p w #[]
    GStep.after (seen p fr.fn es) <| match r with
    | .ok v w => doReturn p main fr cs d v w
    | .halt _ w => .ended (.stuck "range over a function: no such loop" (fr.pos p)) w
theorem leaveG_out (main : Bool) (fr : Frame) (cs : List Frame) (d : Option Dying) (w : World) (jump : Option Code) : leaveG p main fr cs d (w.out x) jump = (leaveG p main fr cs d w jump).out x := by
  unfold leaveG
  cases fr.roundOf with
  | none => exact ite_out x rfl rfl
  | some l =>
    dsimp only
    rw [runT_out]
    generalize Sem.runT p _ w #[] = r
    obtain ⟨r, es⟩ := r
    dsimp only
    rw [after_out]
    cases r with
    | ok a w => exact congrArg _ (doReturn_out p x _ _ _ _ _ _)
    | halt h w => rfl

set_option maxHeartbeats 400000 in
theorem exec_out (main listen : Bool) (fr : Frame) (cs : List Frame) (d : Option Dying) (w : World) : stepG.exec p main listen fr cs d (w.out x) = (stepG.exec p main listen fr cs d w).out x := by
  unfold stepG.exec
  extract_lets go to lost leave to' lost' leave'
  split
  · exact leaveG_out p x main fr cs d w none
  · exact leaveG_out p x main fr cs d w (some .ret)
  · rfl
  · rfl
  · rfl
  · rfl
  · rfl
  · split <;> rfl
  · rfl
  · rfl
  · rfl
  · rfl
  · cases exitTo _ _ with
    | none => exact leaveG_out p x main fr cs d w (some (.exit _))
    | some k => rfl
  · cases gotoIn _ _ with
    | none => exact leaveG_out p x main fr cs d w (some (.goto _))
    | some k => rfl
  · rw [runT_out]
    generalize Sem.runT p _ w #[] = r
    obtain ⟨r, es⟩ := r
    dsimp only
    rw [after_out]
    cases r with
    | ok a w => exact congrArg _ (apply_out p x _ _ _ _ _ _)
    | halt h w => rfl
  · rfl
  · exact apply_out p x _ _ _ _ _ _
  · rw [runT_out]
    generalize Sem.runT p _ w #[] = r
    obtain ⟨r, es⟩ := r
    dsimp only
    rw [after_out]
    cases r with
    | ok a w => rfl
    | halt h w => cases h <;> rfl
  · rfl
  · exact apply_out p x _ _ _ _ _ _
  · cases Extern.next _ with
    | none => rfl
    | some e => exact apply_out p x _ _ _ _ _ _
  · refine ite_out x rfl ?_
    rw [run_out]
    generalize Sem.run p _ w = r
    cases r <;> rfl
  · rfl
  · exact ite_out x (oper_out p x _ _ _ _ _) rfl

theorem stepG_out (main : Bool) (g : Goroutine) (w : World) : stepG p main g (w.out x) = (stepG p main g w).out x := by
  obtain ⟨fr, cs, st, d, of⟩ := g
  unfold stepG
  dsimp only
  split
  · exact die_out p x _ _ _
  · exact exec_out p x _ _ _ _ _ _
  · exact unwind_out p x _ _ _ _ _

/-- A step that goes on: with another book it goes on to the same, and leaves the book. -/
theorem stepG_go_out {main : Bool} {g g' : Goroutine} {w w' : World} {es : Array Event} (h : stepG p main g (w.out x) = .go g' w' es) : stepG p main g w = .go g' (w'.out w.output) es ∧ w'.output = x := by
  have h1 := stepG_out p x main g w
  rw [h] at h1
  have h2 := stepG_out p w.output main g w
  rw [show w.out w.output = w from rfl] at h2
  cases hs : stepG p main g w with
  | go g1 w1 es1 =>
    rw [hs] at h1 h2
    simp only [GStep.out, GStep.go.injEq] at h1 h2 ⊢
    obtain ⟨rfl, rfl, rfl⟩ := h1
    exact ⟨⟨rfl, h2.2.1, rfl⟩, rfl⟩
  | _ => rw [hs] at h1; cases h1
theorem stepG_spawn_out {main : Bool} {g g' c : Goroutine} {w w' : World} {es : Array Event} (h : stepG p main g (w.out x) = .spawn g' c w' es) : stepG p main g w = .spawn g' c (w'.out w.output) es ∧ w'.output = x := by
  have h1 := stepG_out p x main g w
  rw [h] at h1
  have h2 := stepG_out p w.output main g w
  rw [show w.out w.output = w from rfl] at h2
  cases hs : stepG p main g w with
  | spawn g1 c1 w1 es1 =>
    rw [hs] at h1 h2
    simp only [GStep.out, GStep.spawn.injEq] at h1 h2 ⊢
    obtain ⟨rfl, rfl, rfl, rfl⟩ := h1
    exact ⟨⟨rfl, rfl, h2.2.2.1, rfl⟩, rfl⟩
  | _ => rw [hs] at h1; cases h1
end
end Go.Gh

/-
  A goroutine's book: the blocks that it has made. What the others may do to it ('Ro'), and what it may do ('Dg').
-/
namespace Go.Gh
open Go.Conc Go.ConcN
open Go.ConcR (Payload)

def tagOf (w : World) : Nat := match w.output.toList with | [] => 0 | (t, _) :: _ => t
def ownOf (w : World) : List Nat := (w.output.toList.drop 1).map (·.1)
def book (t : Nat) (l : List Nat) : Array (Nat × ByteArray) := ((t, ByteArray.empty) :: l.map fun b => (b, ByteArray.empty)).toArray
theorem tag_book (w : World) (t : Nat) (l : List Nat) : tagOf (w.out (book t l)) = t := by simp [tagOf, book, World.out]
theorem own_book (w : World) (t : Nat) (l : List Nat) : ownOf (w.out (book t l)) = l := by simp [ownOf, book, World.out, Function.comp_def]
/-- The blocks that are its own: those in its book, and those that it has made since. -/
def Mine (w : World) (b : Nat) : Prop := b ∈ ownOf w ∨ (tagOf w ≤ b ∧ b < w.heap.size)
/-- The world with a goroutine's book, up to date. -/
def gw (w : World) (l : List Nat) : World := w.out (book w.heap.size l)
theorem mine_gw (w : World) (l : List Nat) (b : Nat) : Mine (gw w l) b ↔ b ∈ l := by
  unfold Mine gw
  rw [own_book, tag_book]
  exact ⟨fun h => h.elim id fun h => absurd h.2 (by simp only [heap_out]; omega), .inl⟩

/-- What was before the fork: the blocks of old groups, which nobody touches plainly any more. -/
class OldG where
  old : Nat → Prop
/-- .. how many goroutines are still leaving; how long the trace was. -/
class OldE where
  el : Nat
  ts : Nat

section
variable [Payload] (Wg C n B : Nat) (Cl : Nat → Prop)

/-- What the others may do between two steps: its own blocks stand; the blocks below B stand, but the group's and the payload's; in the payload's block its own cells stand; its book is brought up to date. -/
structure Ro (w w₁ : World) : Prop where
  size : w.heap.size ≤ w₁.heap.size
  tape : w₁.tape = w.tape
  os : w₁.os = w.os
  tag : tagOf w₁ = w₁.heap.size
  own : ∀ b, b ∈ ownOf w₁ ↔ Mine w b
  low : ∀ b, b < B → b ≠ Wg → b ≠ C → w₁.heap[b]? = w.heap[b]?
  mine : ∀ b, Mine w b → w₁.heap[b]? = w.heap[b]?
  cell : ∀ i, Cl i → w₁.cell? ⟨C, i, none⟩ = w.cell? ⟨C, i, none⟩
  pay : PayAt C n w → PayAt C n w₁

variable [OldG]
/-- An access that it may make. -/
def EvG (w w' : World) (e : Event) : Prop := ∃ a wr, e = ⟨.cell a, wr, false⟩ ∧ a.block < w'.heap.size ∧
  (Mine w a.block ∨ w.heap.size ≤ a.block ∨ (∃ i, a = ⟨C, i, none⟩ ∧ Cl i) ∨ (a.block < B ∧ a.block ≠ Wg ∧ a.block ≠ C ∧ wr = false ∧ ¬ OldG.old a.block))

/-- What a step of its own may do. -/
structure Dg (w w' : World) (es : Array Event) : Prop where
  size : w.heap.size ≤ w'.heap.size
  tape : w'.tape = w.tape
  os : w'.os = w.os
  frame : ∀ b, b < w.heap.size → ¬ Mine w b → b ≠ C → w'.heap[b]? = w.heap[b]?
  cells : ∀ i, ¬ Cl i → w'.cell? ⟨C, i, none⟩ = w.cell? ⟨C, i, none⟩
  pay : PayAt C n w → PayAt C n w'
  evs : ∀ e ∈ es, EvG Wg C B Cl w w' e
end

section
variable [Payload] {Wg C n B : Nat} {Cl : Nat → Prop} {w w₁ w₂ : World}

theorem Ro.mineAt (h : Ro Wg C n B Cl w w₁) (b : Nat) : Mine w₁ b ↔ Mine w b := by
  unfold Mine
  rw [h.own, h.tag]
  exact ⟨fun x => x.elim id fun y => absurd y (by omega), .inl⟩
theorem Ro.trans (h : Ro Wg C n B Cl w w₁) (h' : Ro Wg C n B Cl w₁ w₂) : Ro Wg C n B Cl w w₂ :=
  ⟨Nat.le_trans h.size h'.size, h'.tape.trans h.tape, h'.os.trans h.os, h'.tag, fun b => (h'.own b).trans (h.mineAt b), fun b h1 h2 h3 => (h'.low b h1 h2 h3).trans (h.low b h1 h2 h3),
    fun b hb => (h'.mine b ((h.mineAt b).2 hb)).trans (h.mine b hb), fun i hi => (h'.cell i hi).trans (h.cell i hi), h'.pay ∘ h.pay⟩
theorem Dg.idle [OldG] (w : World) : Dg Wg C n B Cl w w #[] := ⟨Nat.le_refl _, rfl, rfl, fun _ _ _ _ => rfl, fun _ _ => rfl, id, by simp⟩

/-- What a step of another goroutine's did to the world: 'lo', 'Cm': its own blocks and cells. -/
structure Chg (ty : TypeId) (Wg C n : Nat) (lo : List Nat) (Cm : Nat → Prop) (W W' : World) : Prop where
  size : W.heap.size ≤ W'.heap.size
  tape : W'.tape = W.tape
  os : W'.os = W.os
  frame : ∀ b, b < W.heap.size → b ∉ lo → b ≠ C → b ≠ Wg → W'.heap[b]? = W.heap[b]?
  cells : ∀ i, ¬ Cm i → W'.cell? ⟨C, i, none⟩ = W.cell? ⟨C, i, none⟩
  pay : PayAt C n W → PayAt C n W'
  live : WgLive ty Wg W → WgLive ty Wg W'

variable {ty : TypeId} {lo l : List Nat} {Cm : Nat → Prop} {W W' : World}
theorem Chg.refl (W : World) : Chg ty Wg C n lo Cm W W := ⟨Nat.le_refl _, rfl, rfl, fun _ _ _ _ _ => rfl, fun _ _ => rfl, id, id⟩
theorem Chg.at (W : World) (d : Nat) : Chg ty Wg C n lo Cm W (W.at d) := ⟨Nat.le_refl _, rfl, rfl, fun _ _ _ _ _ => rfl, fun _ _ => rfl, id, id⟩
/-- A turn of the group's block. -/
theorem Chg.of_wg (h : Aside Wg W W') (hl : WgLive ty Wg W') (hCW : C ≠ Wg) : Chg ty Wg C n lo Cm W W' :=
  ⟨Nat.le_of_eq h.size.symm, h.tape, h.os, fun b _ _ _ hb => h.block b hb, fun i _ => cell_of_block (h.block C hCW) i, fun ⟨cs, hc, hn⟩ => ⟨cs, (h.block C hCW).trans hc, hn⟩, fun _ => hl⟩
/-- .. is within what a goroutine suffers. -/
theorem Chg.ro (h : Chg ty Wg C n lo Cm W W') (hB : B ≤ W.heap.size) (hlo : ∀ b ∈ lo, B ≤ b) (hl : ∀ b ∈ l, b ∉ lo ∧ b < W.heap.size ∧ b ≠ C ∧ b ≠ Wg) (hCl : ∀ i, Cl i → ¬ Cm i) : Ro Wg C n B Cl (gw W l) (gw W' l) := by
  refine ⟨h.size, h.tape, h.os, ?_, fun b => ?_, fun b hb h1 h2 => h.frame b (by omega) (fun hm => by have := hlo b hm; omega) h2 h1, fun b hb => ?_, fun i hi => h.cells i (hCl i hi), h.pay⟩
  · unfold gw; rw [tag_book]; rfl
  · rw [mine_gw]; unfold gw; rw [own_book]
  · rw [mine_gw] at hb
    obtain ⟨h1, h2, h3, h4⟩ := hl b hb
    exact h.frame b h2 h1 h3 h4

/-- The blocks that were made between two sizes. -/
def fresh (a b : Nat) : List Nat := List.range' a (b - a)
omit [Payload] in
theorem mem_fresh {a b x : Nat} : x ∈ fresh a b ↔ a ≤ x ∧ x < b := by
  unfold fresh; rw [List.mem_range'_1]; omega

/-- A step of its own: the book is brought up to date. -/
theorem ro_own (hW : W' = w₁.out W.output) (ho : w₁.output = book W.heap.size l) : Ro Wg C n B Cl w₁ (gw W' (l ++ fresh W.heap.size W'.heap.size)) := by
  subst hW
  have hm : ∀ b, Mine w₁ b ↔ b ∈ l ++ fresh W.heap.size w₁.heap.size := by
    intro b
    have e : w₁ = w₁.out (book W.heap.size l) := by rw [← ho]; rfl
    rw [e]
    unfold Mine
    rw [own_book, tag_book, List.mem_append, mem_fresh]
  refine ⟨Nat.le_refl _, rfl, rfl, ?_, fun b => ?_, fun _ _ _ _ => rfl, fun _ _ => rfl, fun _ _ => rfl, id⟩
  · unfold gw; rw [tag_book]; rfl
  · unfold gw; rw [own_book, hm]; rfl

/-- A step of its own, as the others see it. -/
theorem Dg.chg [OldG] {es : Array Event} (h : Dg Wg C n B Cl (gw W l) w₁ es) (hW : W' = w₁.out W.output) (hwg : Wg ∉ l) (hWs : Wg < W.heap.size) (hCW : C ≠ Wg) : Chg ty Wg C n l Cl W W' := by
  subst hW
  have hf : ∀ b, b < W.heap.size → b ∉ l → b ≠ C → w₁.heap[b]? = W.heap[b]? := fun b h1 h2 h3 => h.frame b h1 (by rw [mine_gw]; exact h2) h3
  refine ⟨h.size, h.tape, h.os, fun b h1 h2 h3 _ => hf b h1 h2 h3, fun i hi => h.cells i hi, h.pay, fun ⟨st, sm, x⟩ => ⟨st, sm, ?_⟩⟩
  have := hf Wg hWs hwg (Ne.symm hCW)
  exact x.of_block this
end

end Go.Gh

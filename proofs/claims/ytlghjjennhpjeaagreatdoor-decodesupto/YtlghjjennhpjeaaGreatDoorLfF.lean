/-
  A lone run's frames: a step of such a goroutine is a step on its own frame, a call, or a return; it is the same with more to do behind, in another world that is like it.
-/
import Derived.Test.YtlghjjennhpjeaaGreatDoorLfD
import Derived.Control
import Derived.Conc.Own
import Derived.Conc.Listed
import Derived.Conc.Own3
namespace Go.Lf
open Go.Conc

section
variable (P : Program) (F : FuncId → Bool)
/-- What may stand on a frame's list. -/
def TItem (S : Clos) : Item → Prop
  | .code c => okCodeS P F S c = true
  | .inBlock _ => True
  | .inLoop c => okCodeS P F S c = true
  | .inRegion ops _ => ops.all (okOpS P F S) = true
  | _ => False
structure TFr (f : Frame) : Prop where
  fn : ∃ fn, P.funcs[f.fn]? = some fn
  kind : f.kind = .normal
  defers : f.defers = []
  round : f.roundOf = none
  todo : ∃ S, (∀ it ∈ f.todo, TItem P F S it) ∧ InvS S f.tmps
end

section
variable {P : Program} {F : FuncId → Bool} {S : Clos} {tmps : Array Value}
theorem InvS.nil : InvS [] tmps := fun x hx => by simp at hx
/-- What a slot holds when something is put into it. -/
def putD (d : Option Tmp) (tmps : Array Value) (u : Value) : Array Value := match d with
  | some d => tmps.setIfInBounds d u
  | none => tmps
theorem getD_put (t d : Nat) (u : Value) : (tmps.setIfInBounds d u).getD t undef = if d = t then (if d < tmps.size then u else undef) else tmps.getD t undef := by
  rw [Array.getD_eq_getD_getElem?, Array.getElem?_setIfInBounds, Array.getD_eq_getD_getElem?]
  split
  · split
    · rfl
    · rfl
  · rfl
theorem InvS.un (h : InvS S tmps) (d : Option Tmp) : InvS S (putD d tmps undef) := fun x hx => by
  cases d with
  | none => exact h x hx
  | some d =>
    simp only [putD]
    rw [getD_put]
    split
    · left; split <;> rfl
    · exact h x hx
theorem InvS.put (h : InvS S tmps) {o : Oper} {u : Value} (hu : ∀ x ∈ S, o.dst = some x.1 → u = Go.undef ∨ ∃ fs cs, u = .func (.func x.2.1) fs cs ∧ fs.size + cs.size = x.2.2) : InvS S (putD o.dst tmps u) := fun x hx => by
  cases hd : o.dst with
  | none => exact h x hx
  | some d =>
    simp only [putD]
    rw [getD_put]
    split
    · rename_i e
      split
      · exact hu x hx (by rw [hd, e])
      · exact .inl rfl
    · exact h x hx
theorem ok_src {o : Oper} (ho : okOpS P F S o = true) {x : Nat × FuncId × Nat} (hx : x ∈ S) (hd : o.dst = some x.1) : okSrc S x.2 o.op = true := by
  unfold okOpS at ho
  rw [Bool.and_eq_true] at ho
  have := List.all_eq_true.1 ho.1 x hx
  rw [if_pos (by rw [hd]; simp)] at this
  exact this
/-- What an operation on such a slot yields. -/
theorem src_run {ρ : Operand → Value} (hτ : ∀ j, ρ (.tmp j) = tmps.getD j undef) (hS : InvS S tmps) {o : Oper} {x : FuncId × Nat} (h : okSrc S x o.op = true) {v v' : World} {es es' : Array Event} {n : Next} (hr : (execOp ρ o).runT P v es = (.ok n v', es')) :
    ∃ u, n = .value u ∧ (u = undef ∨ ∃ fs cs, u = .func (.func x.1) fs cs ∧ fs.size + cs.size = x.2) := by
  obtain ⟨dst, op, ty, pos, after, guard⟩ := o
  cases op
  case move y =>
    cases y
    case tmp j =>
      have h1 : (j, x) ∈ S := by simpa [okSrc] using h
      have e : (execOp ρ ⟨dst, .move (.tmp j), ty, pos, after, guard⟩).runT P v es = (.ok (.value (ρ (.tmp j))) v, es) := rfl
      rw [e] at hr
      cases hr
      exact ⟨_, rfl, by rw [hτ]; exact hS (j, x) h1⟩
    all_goals cases h
  case assign y =>
    cases y
    case tmp j =>
      have h1 : (j, x) ∈ S := by simpa [okSrc] using h
      have e : (execOp ρ ⟨dst, .assign (.tmp j), ty, pos, after, guard⟩).runT P v es = (.ok (.value (ρ (.tmp j))) v, es) := rfl
      rw [e] at hr
      cases hr
      exact ⟨_, rfl, by rw [hτ]; exact hS (j, x) h1⟩
    all_goals cases h
  case makeFunc fn first cap =>
    cases fn
    case func g =>
      have h1 : g = x.1 ∧ first.size + cap.size = x.2 := by simpa [okSrc] using h
      have e : (execOp ρ ⟨dst, .makeFunc (.func g) first cap, ty, pos, after, guard⟩).runT P v es = (.ok (.value (.func (.func g) (first.map ρ) (cap.map ρ))) v, es) := rfl
      rw [e] at hr
      cases hr
      exact ⟨_, rfl, .inr ⟨_, _, by rw [h1.1], by simpa using h1.2⟩⟩
    all_goals cases h
  all_goals cases h
theorem InvS.enter {as : Array Value} {n k : Nat} (ha : as.size ≤ n) (h : ∀ x ∈ S, n ≤ x.1) : InvS S (as ++ Array.replicate k undef) := fun x hx => by
  have := h x hx
  left
  rw [Array.getD_eq_getD_getElem?, Array.getElem?_append_right (by omega), Array.getElem?_replicate]
  split <;> rfl
end

/-- More to do behind. -/
def extB (K : List Item) (f : Frame) : Frame := { f with todo := f.todo ++ K }
theorem extB_nil (f : Frame) : extB [] f = f := by simp [extB]

/-- The events of a step, in the order of the two worlds. -/
def EvsP (X : Nat → Prop) (w : World) (es : Array Event) : Prop := ∀ e ∈ es, EvP X w e

section
variable {P : Program} {F : FuncId → Bool} {X : Nat → Prop} {Y : Nat → Option Obj}

/-- The step of one frame: three ways. -/
inductive Way (P : Program) (F : FuncId → Bool) (f : Frame) (cs : List Frame) (w w' : World) (es : Array Event) (g' : Goroutine) : Prop
  | here {f' : Frame} : g' = G f' cs → TFr P F f' → (f'.mode = .run ∨ f'.mode = .returning) → (∀ K cs2, (f.todo = [] → K = []) → stepG P true (G (extB K f) cs2) w = .go (G (extB K f') cs2) w' es) → Way P F f cs w w' es g'
  | call {e : Frame} : g' = G e (f :: cs) → TFr P F e → e.mode = .run → (f.todo ≠ [] ∧ ∀ u, TFr P F (f.finish u)) → (∀ K cs2, stepG P true (G (extB K f) cs2) w = .go (G e (extB K f :: cs2)) w' es) → Way P F f cs w w' es g'
  | back {c : Frame} {r : List Frame} {v : Value} : cs = c :: r → g' = G (c.finish v) r → f.mode = .returning → (∀ c2 r2, stepG P true (G f (c2 :: r2)) w = .go (G (c2.finish v) r2) w' es) → Way P F f cs w w' es g'

theorem exitTo_app {id : Nat} {K : List Item} : ∀ {k k' : List Item}, exitTo id k = some k' → exitTo id (k ++ K) = some (k' ++ K)
  | [], _, h => by simp [exitTo] at h
  | x :: k, k', h => by
    cases x <;> simp only [exitTo, List.cons_append] at h ⊢ <;> first
      | exact exitTo_app h
      | (split at h
         · rename_i hc; rw [if_pos hc]; cases h; rfl
         · rename_i hc; rw [if_neg hc]; exact exitTo_app h)
theorem exitTo_mem {id : Nat} : ∀ {k k' : List Item}, exitTo id k = some k' → ∀ it ∈ k', it ∈ k
  | [], _, h => by simp [exitTo] at h
  | x :: k, k', h => by
    intro it hit
    cases x <;> simp only [exitTo] at h <;> first
      | exact List.mem_cons_of_mem _ (exitTo_mem h it hit)
      | (split at h
         · cases h; exact List.mem_cons_of_mem _ hit
         · exact List.mem_cons_of_mem _ (exitTo_mem h it hit))

/-- The step reads the tape only as far as it draws from it. -/
def Tp (P : Program) (g : Goroutine) (v : World) (g' : Goroutine) (v' : World) (es : Array Event) : Prop :=
  v'.tape = v.tape ∧ v.drawn ≤ v'.drawn ∧ ∀ τ : Nat → Question → Nat, (∀ p, v.drawn ≤ p → p < v'.drawn → τ p = v.tape p) → stepG P true g { v with tape := τ } = .go g' { v' with tape := τ } es

/-- What is said of a step. -/
def Stepd (P : Program) (F : FuncId → Bool) (X : Nat → Prop) (Y : Nat → Option Obj) (f : Frame) (cs : List Frame) (w v : World) : Prop :=
  (∃ o v' es, stepG P true (G f cs) v = .ended o v' es) ∨ (∃ ch v' es, stepG P true (G f cs) v = .go (G { f with mode := .panicking ch } cs) v' es) ∨
  ∃ g' v' es w', stepG P true (G f cs) v = .go g' v' es ∧ Tp P (G f cs) v g' v' es ∧ Sim X Y w' v' ∧ w.heap.size ≤ w'.heap.size ∧ EvsP X w' es ∧ Way P F f cs w w' es g'

theorem ctl {f f' : Frame} {cs : List Frame} {w v : World} (hs : Sim X Y w v) (h : ∀ K cs2 u, (f.todo = [] → K = []) → stepG P true (G (extB K f) cs2) u = .go (G (extB K f') cs2) u #[]) (hT : TFr P F f') (hm : f'.mode = .run ∨ f'.mode = .returning) : Stepd P F X Y f cs w v := by
  have key : ∀ u, stepG P true (G f cs) u = .go (G f' cs) u #[] := fun u => by
    have := h [] cs u (fun _ => rfl)
    rwa [extB_nil, extB_nil] at this
  exact .inr (.inr ⟨G f' cs, v, #[], w, key v, ⟨rfl, Nat.le_refl _, fun τ _ => key _⟩, hs, Nat.le_refl _, fun e he => by simp at he, .here rfl hT hm fun K cs2 hk => h K cs2 w hk⟩)

theorem eval_ext (K : List Item) (f : Frame) : (extB K f).eval = f.eval := by
  funext x
  cases x <;> rfl

set_option maxHeartbeats 1000000 in
theorem tstep (hF : GoodF P F) {f : Frame} {cs : List Frame} {w v : World} (hT : TFr P F f) (hm : f.mode = .run) (hs : Sim X Y w v) : Stepd P F X Y f cs w v := by
  obtain ⟨fn, tmps, todo, defers, mode, kind, round⟩ := f
  obtain ⟨⟨fun0, hfn⟩, hk, hd, hr, S, ht, hS⟩ := hT
  dsimp only at hfn hk hd hr ht hS hm
  subst hk hd hr hm
  have mk : ∀ {todo' : List Item} {mode' : FrameMode}, (∀ it ∈ todo', TItem P F S it) → TFr P F ⟨fn, tmps, todo', [], mode', .normal, none⟩ := fun h => ⟨⟨fun0, hfn⟩, rfl, rfl, rfl, S, h, hS⟩
  cases todo with
  | nil => exact ctl (f' := ⟨fn, tmps, [], [], .returning, .normal, none⟩) hs (fun K cs2 u hK => by rw [hK rfl]; rfl) (mk (by simp)) (.inr rfl)
  | cons it k =>
    have hit := ht it (by simp)
    have hk : ∀ x ∈ k, TItem P F S x := fun x hx => ht x (by simp [hx])
    have two : ∀ {a : Item}, TItem P F S a → ∀ x ∈ a :: k, TItem P F S x := fun ha x hx => by
      rcases List.mem_cons.1 hx with rfl | hx
      · exact ha
      · exact hk x hx
    cases it with
    | code c =>
      cases c with
      | skip => exact ctl (f' := ⟨fn, tmps, k, [], .run, .normal, none⟩) hs (fun K cs2 u _ => rfl) (mk hk) (.inl rfl)
      | ret => exact ctl (f' := ⟨fn, tmps, .code .ret :: k, [], .returning, .normal, none⟩) hs (fun K cs2 u _ => rfl) (mk ht) (.inr rfl)
      | seq a b =>
        have hab : okCodeS P F S a = true ∧ okCodeS P F S b = true := by simpa [TItem, okCodeS] using hit
        exact ctl (f' := ⟨fn, tmps, .code a :: .code b :: k, [], .run, .normal, none⟩) hs (fun K cs2 u _ => rfl) (mk fun x hx => by
          rcases List.mem_cons.1 hx with rfl | hx
          · exact hab.1
          · exact two (a := .code b) hab.2 x hx) (.inl rfl)
      | cond c a b =>
        have hab : okCodeS P F S a = true ∧ okCodeS P F S b = true := by simpa [TItem, okCodeS] using hit
        cases he : (⟨fn, tmps, .code (.cond c a b) :: k, [], .run, .normal, none⟩ : Frame).eval c with
        | bool t =>
          refine ctl (f' := ⟨fn, tmps, .code (if t then a else b) :: k, [], .run, .normal, none⟩) hs (fun K cs2 u _ => ?_) (mk (two (a := .code (if t then a else b)) (by cases t <;> simp [TItem, hab]))) (.inl rfl)
          have he' : (extB K ⟨fn, tmps, .code (.cond c a b) :: k, [], .run, .normal, none⟩).eval c = .bool t := by rw [eval_ext]; exact he
          simp only [extB, List.cons_append] at he'
          simp only [G, extB, stepG, stepG.exec, List.cons_append, he']
        | _ => exact .inl ⟨_, _, _, by simp only [G, stepG, stepG.exec, he]; rfl⟩
      | block id c => exact ctl (f' := ⟨fn, tmps, .code c :: .inBlock id :: k, [], .run, .normal, none⟩) hs (fun K cs2 u _ => rfl) (mk fun x hx => by
          rcases List.mem_cons.1 hx with rfl | hx
          · exact hit
          · exact two (a := .inBlock id) trivial x hx) (.inl rfl)
      | loop c => exact ctl (f' := ⟨fn, tmps, .code c :: .inLoop c :: k, [], .run, .normal, none⟩) hs (fun K cs2 u _ => rfl) (mk fun x hx => by
          rcases List.mem_cons.1 hx with rfl | hx
          · exact hit
          · exact two (a := .inLoop c) hit x hx) (.inl rfl)
      | exit id =>
        cases he : exitTo id k with
        | none => exact .inl ⟨_, _, _, by simp only [G, stepG, stepG.exec, he, Option.elim]; rfl⟩
        | some k' => exact ctl (f' := ⟨fn, tmps, k', [], .run, .normal, none⟩) hs (fun K cs2 u _ => by simp only [G, extB, stepG, stepG.exec, List.cons_append, exitTo_app he, Option.elim]) (mk fun x hx => hk x (exitTo_mem he x hx)) (.inl rfl)
      | region id ops draw =>
        have ho : ops.all (okOpS P F S) = true := hit
        cases draw with
        | false => exact ctl (f' := ⟨fn, tmps, .inRegion ops (List.range ops.size) :: k, [], .run, .normal, none⟩) hs (fun K cs2 u _ => rfl) (mk (two (a := .inRegion ops _) ho)) (.inl rfl)
        | true =>
          have hc : ∀ u : World, (choose (.order fn id)).run P u = .ok (u.tape u.drawn (.order fn id)) { u with drawn := u.drawn + 1 } := fun u => rfl
          have et : w.tape w.drawn (.order fn id) = v.tape v.drawn (.order fn id) := by simpa using hs.str 0 (.order fn id)
          refine .inr (.inr ⟨_, { v with drawn := v.drawn + 1 }, #[], { w with drawn := w.drawn + 1 }, by simp only [G, stepG, stepG.exec, Bool.not_true, Bool.false_eq_true, if_false, hc], ⟨rfl, Nat.le_succ _, fun τ hτ => by simp only [G, stepG, stepG.exec, Bool.not_true, Bool.false_eq_true, if_false, hc, hτ v.drawn (Nat.le_refl _) (Nat.lt_succ_self _)]⟩, hs.draw, Nat.le_refl _, fun e he => by simp at he,
            .here (f' := ⟨fn, tmps, .inRegion ops (Region.schedule (P.follows .mixedOrders) ops (v.tape v.drawn (.order fn id))) :: k, [], .run, .normal, none⟩) rfl (mk (two (a := .inRegion ops _) ho)) (.inl rfl) fun K cs2 _ => ?_⟩)
          simp only [G, extB, stepG, stepG.exec, List.cons_append, Bool.not_true, Bool.false_eq_true, if_false, hc, et]
      | _ => cases hit
    | inBlock id => exact ctl (f' := ⟨fn, tmps, k, [], .run, .normal, none⟩) hs (fun K cs2 u _ => rfl) (mk hk) (.inl rfl)
    | inLoop c => exact ctl (f' := ⟨fn, tmps, .code c :: .inLoop c :: k, [], .run, .normal, none⟩) hs (fun K cs2 u _ => rfl) (mk fun x hx => by
          rcases List.mem_cons.1 hx with rfl | hx
          · exact hit
          · exact two (a := .inLoop c) hit x hx) (.inl rfl)
    | inRegion ops is =>
      cases is with
      | nil => exact ctl (f' := ⟨fn, tmps, k, [], .run, .normal, none⟩) hs (fun K cs2 u _ => rfl) (mk hk) (.inl rfl)
      | cons i rest =>
        have ho : ops.all (okOpS P F S) = true := hit
        cases hw : ((ops[i]?).map (Region.wanted · (yielded ops tmps))).getD false with
        | false =>
          refine ctl (f' := (⟨fn, tmps, .inRegion ops (i :: rest) :: k, [], .run, .normal, none⟩ : Frame).finish undef) hs (fun K cs2 u _ => ?_) ⟨⟨fun0, hfn⟩, rfl, rfl, rfl, S, two (a := .inRegion ops _) ho, hS.un _⟩ (.inl rfl)
          simp only [G, extB, stepG, stepG.exec, List.cons_append, hw, Bool.false_eq_true, if_false, Frame.finish]
        | true =>
          cases hoi : ops[i]? with
          | none => rw [hoi] at hw; cases hw
          | some o =>
            have hok : okOpS P F S o = true := Array.all_eq_true_iff_forall_mem.1 ho o (Array.mem_of_getElem? hoi)
            have eA : ∀ K cs2 u, stepG P true (G (extB K ⟨fn, tmps, .inRegion ops (i :: rest) :: k, [], .run, .normal, none⟩) cs2) u =
                stepG.apply P true (extB K ⟨fn, tmps, .inRegion ops (i :: rest) :: k, [], .run, .normal, none⟩) cs2 none (execOp (⟨fn, tmps, .inRegion ops (i :: rest) :: k, [], .run, .normal, none⟩ : Frame).eval o) u := fun K cs2 u => by
              rw [← eval_ext K]
              rw [hoi] at hw
              simp only [G, extB, stepG, stepG.exec, List.cons_append, stepG.oper, Frame.oper?, hoi]
              rw [if_pos hw]
            obtain ⟨hpl, hlf⟩ := exec_ok hF (ρ := (⟨fn, tmps, .inRegion ops (i :: rest) :: k, [], .run, .normal, none⟩ : Frame).eval) (fun _ => rfl) (fun _ => rfl) hS hok
            have hsr : ∀ {x : FuncId × Nat} {v v' : World} {es es' : Array Event} {n : Next}, okSrc S x o.op = true → (execOp (⟨fn, tmps, .inRegion ops (i :: rest) :: k, [], .run, .normal, none⟩ : Frame).eval o).runT P v es = (.ok n v', es') → ∃ u, n = .value u ∧ (u = undef ∨ ∃ fs cs, u = .func (.func x.1) fs cs ∧ fs.size + cs.size = x.2) := fun h hr => src_run (fun _ => rfl) hS h hr
            have fin : ∀ u, (⟨fn, tmps, .inRegion ops (i :: rest) :: k, [], .run, .normal, none⟩ : Frame).finish u = ⟨fn, putD o.dst tmps u, .inRegion ops rest :: k, [], .run, .normal, none⟩ := fun u => by
              simp only [Frame.finish, hoi, Option.bind_some]
              rfl
            generalize execOp (⟨fn, tmps, .inRegion ops (i :: rest) :: k, [], .run, .normal, none⟩ : Frame).eval o = sem at eA hpl hlf hsr
            have eA0 := eA [] cs v
            rw [extB_nil] at eA0
            cases hrun : sem.runT P v #[] with
            | mk r es =>
              cases r with
              | halt h v' =>
                have hh := hpl.halts w v #[] h v' es hs hrun
                cases h with
                | panic u =>
                  exact .inr (.inl ⟨_, _, _, by rw [eA0]; simp only [stepG.apply, if_true, hrun]; rfl⟩)
                | stuck s => exact .inl ⟨_, _, _, by rw [eA0]; simp only [stepG.apply, if_true, hrun]; rfl⟩
                | unsupported u =>
                  cases u with
                  | initOrder b => exact hh.elim
                  | _ => exact .inl ⟨_, _, _, by rw [eA0]; simp only [stepG.apply, if_true, hrun]; rfl⟩
                | _ => exact hh.elim
              | ok x v' =>
                obtain ⟨w', hrun', hs', hsz, hev⟩ := hpl.sim w v #[] x v' es hs hrun
                obtain ⟨ht1, ht2, ht3⟩ := hpl.tape v #[] x v' es hs.nv hrun
                have eAτ : ∀ τ : Nat → Question → Nat, stepG P true (G ⟨fn, tmps, .inRegion ops (i :: rest) :: k, [], .run, .normal, none⟩ cs) { v with tape := τ } = stepG.apply P true ⟨fn, tmps, .inRegion ops (i :: rest) :: k, [], .run, .normal, none⟩ cs none sem { v with tape := τ } := fun τ => by
                  have := eA [] cs { v with tape := τ }
                  rwa [extB_nil] at this
                have hsz' : w.heap.size ≤ w'.heap.size := by rw [hs.size, hs'.size]; exact hsz
                have hevs : EvsP X w' (seen P fn es) := fun e he => (hev e (mem_seen he)).resolve_left (by simp)
                rcases leaf_run sem hlf v #[] x v' es hrun with ⟨u, rfl⟩ | rfl | ⟨f1, as, hf1, has, rfl⟩
                · refine .inr (.inr ⟨_, _, seen P fn es, w', by rw [eA0]; simp only [stepG.apply, if_true, hrun, GStep.after]; rfl, ⟨ht1, ht2, fun τ hτ => by rw [eAτ]; simp only [stepG.apply, if_true, ht3 τ hτ, GStep.after]; rfl⟩, hs', hsz', hevs,
                    .here (f' := (⟨fn, tmps, .inRegion ops (i :: rest) :: k, [], .run, .normal, none⟩ : Frame).finish u) rfl (by rw [fin]; exact ⟨⟨fun0, hfn⟩, rfl, rfl, rfl, S, two (a := .inRegion ops _) ho, hS.put fun x hx hd => by obtain ⟨u', e, h⟩ := hsr (ok_src hok hx hd) hrun; cases e; exact h⟩) (.inl rfl) fun K cs2 _ => ?_⟩)
                  rw [eA]
                  simp only [stepG.apply, if_true, hrun', GStep.after]
                  rfl
                · refine .inr (.inr ⟨_, _, seen P fn es, w', by rw [eA0]; simp only [stepG.apply, if_true, hrun, GStep.after]; rfl, ⟨ht1, ht2, fun τ hτ => by rw [eAτ]; simp only [stepG.apply, if_true, ht3 τ hτ, GStep.after]; rfl⟩, hs', hsz', hevs,
                    .here (f' := (⟨fn, tmps, .inRegion ops (i :: rest) :: k, [], .run, .normal, none⟩ : Frame).finish undef) rfl (by rw [fin]; exact ⟨⟨fun0, hfn⟩, rfl, rfl, rfl, S, two (a := .inRegion ops _) ho, hS.un _⟩) (.inl rfl) fun K cs2 _ => ?_⟩)
                  rw [eA]
                  simp only [stepG.apply, if_true, hrun', GStep.after]
                  rfl
                · obtain ⟨fn1, c1, S1, g1, g2, g3, g4, g5⟩ := hf1
                  refine .inr (.inr ⟨_, _, seen P fn es, w', by rw [eA0]; simp only [stepG.apply, if_true, hrun, GStep.after]; rfl, ⟨ht1, ht2, fun τ hτ => by rw [eAτ]; simp only [stepG.apply, if_true, ht3 τ hτ, GStep.after]; rfl⟩, hs', hsz', hevs,
                    .call (e := Frame.enter P f1 as .normal) rfl ⟨⟨fn1, g1⟩, rfl, rfl, rfl, S1, fun x hx => ?_, InvS.enter has g5⟩ rfl ⟨by simp, fun u => by rw [fin]; exact ⟨⟨fun0, hfn⟩, rfl, rfl, rfl, S, two (a := .inRegion ops _) ho, hS.put fun x hx hd => by obtain ⟨u', e, h⟩ := hsr (ok_src hok hx hd) hrun; cases e⟩⟩ fun K cs2 => ?_⟩)
                  · simp only [Frame.enter, g1, Option.bind_some, g3, Option.getD_some, List.mem_singleton] at hx
                    subst hx
                    exact g4
                  · rw [eA]
                    simp only [stepG.apply, if_true, hrun', GStep.after]
                    rfl
    | _ => cases hit
end
end Go.Lf

/-
  A piece of code, run alone to its end: the same with whatever to do behind it, whoever called, in a world that is like it; and what it lists.
-/
namespace Go.Lf
open Go.Conc

section
variable {P : Program} {F : FuncId → Bool} {X : Nat → Prop} {Y : Nat → Option Obj}

theorem plain_results (fn : Func) (tmps : Array Value) : Plain P (results fn tmps) := by
  unfold results
  refine plain_bind (plain_mapM (fun x => ?_) _) fun vs => plain_pure _
  cases x with
  | tmp t => exact plain_pure _
  | cell a t => exact plain_bind (plain_asAddr _) fun _ => plain_loadVar _ _

set_option maxHeartbeats 1000000 in
theorem tback {f c : Frame} {r : List Frame} {w v : World} (hT : TFr P F f) (hm : f.mode = .returning) (hs : Sim X Y w v) : (∃ o v' es, stepG P true (G f (c :: r)) v = .ended o v' es) ∨
    ∃ y v' es w', stepG P true (G f (c :: r)) v = .go (G (c.finish y) r) v' es ∧ Tp P (G f (c :: r)) v (G (c.finish y) r) v' es ∧ Sim X Y w' v' ∧ w.heap.size ≤ w'.heap.size ∧ EvsP X w' es ∧ ∀ c2 r2, stepG P true (G f (c2 :: r2)) w = .go (G (c2.finish y) r2) w' es := by
  obtain ⟨fn, tmps, todo, defers, mode, kind, round⟩ := f
  obtain ⟨⟨fun0, hfn⟩, hk, hd, hr, ht⟩ := hT
  dsimp only at hfn hk hd hr ht hm
  subst hk hd hr hm
  have hpl := plain_results (P := P) fun0 tmps
  have eA : ∀ c2 r2 u, stepG P true (G ⟨fn, tmps, todo, [], .returning, .normal, none⟩ (c2 :: r2)) u =
      GStep.after (seen P fn ((results fun0 tmps).runT P u #[]).2) (match ((results fun0 tmps).runT P u #[]).1 with
        | .ok v w => doReturn P true ⟨fn, tmps, todo, [], .returning, .normal, none⟩ (c2 :: r2) none v w
        | .halt (.stuck s) w => .ended (.stuck s (Frame.pos P ⟨fn, tmps, todo, [], .returning, .normal, none⟩)) w
        | .halt _ w => .ended (.stuck "return: the result variables cannot be read" (Frame.pos P ⟨fn, tmps, todo, [], .returning, .normal, none⟩)) w) := fun c2 r2 u => by
    simp only [G, stepG, unwind, hfn]
    rfl
  cases hrun : (results fun0 tmps).runT P v #[] with
  | mk x es =>
    cases x with
    | halt h v' =>
      refine .inl ?_
      rw [eA, hrun]
      cases h <;> exact ⟨_, _, _, rfl⟩
    | ok y v' =>
      obtain ⟨w', hrun', hs', hsz, hev⟩ := sim_run _ w v #[] y v' es hpl hs hrun
      have hsz' : w.heap.size ≤ w'.heap.size := by rw [hs.size, hs'.size]; exact hsz
      obtain ⟨ht1, ht2, ht3⟩ := tape_run _ v #[] y v' es hpl hs.nv hrun
      refine .inr ⟨y, _, seen P fn es, w', by rw [eA, hrun]; simp only [doReturn, GStep.after]; rfl, ⟨ht1, ht2, fun τ hτ => by rw [eA, ht3 τ hτ]; simp only [doReturn, GStep.after]; rfl⟩, hs', hsz', fun e he => (hev e (mem_seen he)).resolve_left (by simp), fun c2 r2 => ?_⟩
      rw [eA, hrun']
      simp only [doReturn, GStep.after]
      rfl

/-- A frame beneath all: whatever comes back to it, or falls on it, is the end. -/
def f0 : Frame := { fn := 0, tmps := #[], todo := [.code (.refuse "")], defers := [{ target := .nil, args := #[] }], mode := .run, kind := .normal }
theorem f0_run (u : World) : ∃ o v es, stepG P true (G f0 []) u = .ended o v es := ⟨_, _, _, rfl⟩
theorem f0_finish (v : Value) : f0.finish v = f0 := rfl
theorem f0_dead (ch : List PanicEntry) (u : World) : ∃ o v es, stepG P true (G { f0 with mode := .panicking ch } []) u = .ended o v es := ⟨_, _, _, rfl⟩

/-- The stack of such a run: all but the last frame wait for a callee. -/
def Stack (P : Program) (F : FuncId → Bool) : List Frame → Prop
  | [] => True
  | c :: r => (TFr P F c ∧ c.mode = .run ∧ c.todo ≠ [] ∧ (∀ v, TFr P F (c.finish v) ∧ (c.finish v).mode = .run ∧ ∀ K, (extB K c).finish v = extB K (c.finish v))) ∧ Stack P F r

theorem finish_ok {c : Frame} (hT : TFr P F c) (hm : c.mode = .run) (hne : c.todo ≠ [] ∧ ∀ u, TFr P F (c.finish u)) : ∀ v, TFr P F (c.finish v) ∧ (c.finish v).mode = .run ∧ ∀ K, (extB K c).finish v = extB K (c.finish v) := by
  intro v
  refine ⟨hne.2 v, ?_⟩
  replace hne := hne.1
  obtain ⟨fn, tmps, todo, defers, mode, kind, round⟩ := c
  obtain ⟨h1, hk, hd, hr, S, ht, _⟩ := hT
  dsimp only at h1 hk hd hr ht hm hne
  subst hk hd hr hm
  cases todo with
  | nil => exact absurd rfl hne
  | cons it k =>
    have hit := ht it (by simp)
    cases it with
    | inRegion ops is =>
      cases is with
      | nil => exact ⟨rfl, fun K => rfl⟩
      | cons i rest => exact ⟨rfl, fun K => rfl⟩
    | code c => exact ⟨rfl, fun K => rfl⟩
    | inBlock id => exact ⟨rfl, fun K => rfl⟩
    | inLoop c => exact ⟨rfl, fun K => rfl⟩
    | _ => cases hit

/-- The stack with more to do behind its last frame, and other callers. -/
def extS (K : List Item) (cs : List Frame) : List Frame → List Frame
  | [] => cs
  | [b] => extB K b :: cs
  | c :: d :: r => c :: extS K cs (d :: r)

/-- Steps that list what is allowed. -/
inductive Gets (P : Program) (X : Nat → Prop) : Goroutine → World → Goroutine → World → Prop
  | refl (g : Goroutine) (w : World) : Gets P X g w g w
  | step {g g' g'' : Goroutine} {w w' w'' : World} {es : Array Event} : g.status = .running → stepG P true g w = .go g' w' es → EvsP X w' es → w.heap.size ≤ w'.heap.size → Gets P X g' w' g'' w'' → Gets P X g w g'' w''
theorem Gets.trans {g g' g'' : Goroutine} {w w' w'' : World} (h : Gets P X g w g' w') (h' : Gets P X g' w' g'' w'') : Gets P X g w g'' w'' := by
  induction h with
  | refl => exact h'
  | step a b c d _ ih => exact .step a b c d (ih h')

/-- n steps of a goroutine alone. -/
def ownN (P : Program) (n : Nat) (f : Frame) (cs : List Frame) (v : World) (f' : Frame) (cs' : List Frame) (v' : World) : Prop := runN P n (lone f cs v) = .next (lone f' cs' v')
theorem own_go {n : Nat} {f f1 f' : Frame} {cs cs1 cs' : List Frame} {v v1 v' : World} {es : Array Event} (he : stepG P true (G f cs) v = .go (G f1 cs1) v1 es) (h : ownN P (n + 1) f cs v f' cs' v') : ownN P n f1 cs1 v1 f' cs' v' := by
  have : step P (lone f cs v) = .next (lone f1 cs1 v1) := step_lone_go (by rw [show stepG P true { frame := f, callers := cs, status := .running, dying := none } v = _ from he]; rfl)
  unfold ownN at h
  rw [runN, this] at h
  exact h
theorem own_end {n : Nat} {f f' : Frame} {cs cs' : List Frame} {v v1 v' : World} {o : Outcome} {es : Array Event} (he : stepG P true (G f cs) v = .ended o v1 es) : ¬ ownN P (n + 1) f cs v f' cs' v' := by
  have : step P (lone f cs v) = .ended o v1 := step_lone_ended (by rw [show stepG P true { frame := f, callers := cs, status := .running, dying := none } v = _ from he]; rfl)
  intro h
  unfold ownN at h
  rw [runN, this] at h
  cases h
theorem own_zero {f f' : Frame} {cs cs' : List Frame} {v v' : World} (h : ownN P 0 f cs v f' cs' v') : f = f' ∧ cs = cs' ∧ v = v' := by
  unfold ownN at h
  rw [runN] at h
  simp only [lone, Stepped.next.injEq, Machine.mk.injEq] at h
  obtain ⟨h1, h2, _⟩ := h
  simp at h2
  exact ⟨h2.1, h2.2, h1⟩

/-- Once a panic is on its way there is no way back. -/
theorem dead_end : ∀ (n : Nat) (f : Frame) (r : List Frame) (ch : List PanicEntry) (v : World) (f' : Frame) (r' : List Frame) (v' : World), (∀ c ∈ r, TFr P F c ∧ c.mode = .run) → f.mode = .panicking ch → ((∃ fn, P.funcs[f.fn]? = some fn) ∧ f.defers = []) → f'.mode = .run →
    ¬ ownN P n f (r ++ [f0]) v f' r' v'
  | 0, f, r, ch, v, f', r', v', _, hm, _, hm', h => by
    obtain ⟨rfl, _⟩ := own_zero h
    rw [hm'] at hm
    cases hm
  | n + 1, f, r, ch, v, f', r', v', hr, hm, ⟨⟨fn, hfn⟩, hd⟩, hm', h => by
    have hcat : f.catches P = false := by unfold Frame.catches; rw [hfn]
    cases r with
    | nil =>
      have e : stepG P true (G f ([] ++ [f0])) v = .go (G (f0.raise ch) []) v #[] := by
        simp only [List.nil_append, G, stepG, hm, unwind, hd, hcat, Bool.false_eq_true, if_false]
      have h2 := own_go e h
      cases n with
      | zero =>
        obtain ⟨h3, _⟩ := own_zero h2
        rw [← h3] at hm'
        cases hm'
      | succ n =>
        obtain ⟨o, v1, es, he⟩ := f0_dead (P := P) ch v
        exact own_end (show stepG P true (G (f0.raise ch) []) v = _ from he) h2
    | cons c r =>
      have e : stepG P true (G f (c :: r ++ [f0])) v = .go (G (c.raise ch) (r ++ [f0])) v #[] := by
        simp only [List.cons_append, G, stepG, hm, unwind, hd, hcat, Bool.false_eq_true, if_false]
      have h2 := own_go e h
      obtain ⟨hc, hcm⟩ := hr c (by simp)
      have er : c.raise ch = { c with mode := .panicking ch } := by simp [Frame.raise, hcm]
      rw [er] at h2
      exact dead_end n { c with mode := .panicking ch } r ch v f' r' v' (fun x hx => hr x (by simp [hx])) rfl ⟨hc.fn, hc.defers⟩ hm' h2

def extG (K : List Item) (cs : List Frame) (f : Frame) (r : List Frame) : Goroutine :=
  match r with
  | [] => G (extB K f) cs
  | c :: r => G f (extS K cs (c :: r))

theorem stack_mem : ∀ {r : List Frame}, Stack P F r → ∀ c ∈ r, TFr P F c ∧ c.mode = .run
  | [], _, c, h => by simp at h
  | d :: r, hS, c, h => by
    rcases List.mem_cons.1 h with rfl | h
    · exact ⟨hS.1.1, hS.1.2.1⟩
    · exact stack_mem hS.2 c h

/-- From f0 there is no way back. -/
theorem f0_end (n : Nat) (v : World) (fz : Frame) (v' : World) : ¬ ownN P n f0 [] v fz [f0] v' := by
  intro h
  cases n with
  | zero => exact absurd (own_zero h).2.1 (by simp)
  | succ n =>
    obtain ⟨o, v1, es, he⟩ := f0_run (P := P) v
    exact own_end he h

/-- ████ The run is carried over. -/
theorem carry (hF : GoodF P F) {fz : Frame} {v' : World} (hz : fz.todo = []) (hzm : fz.mode = .run) (K : List Item) (cs : List Frame) : ∀ (n : Nat) (f : Frame) (r : List Frame) (v w : World), TFr P F f → (f.mode = .run ∨ f.mode = .returning) → Stack P F r → Sim X Y w v →
    ownN P n f (r ++ [f0]) v fz [f0] v' → ∃ w', Sim X Y w' v' ∧ Gets P X (extG K cs f r) w (G (extB K fz) cs) w'
  | 0, f, r, v, w, hT, hm, hS, hs, h => by
    obtain ⟨rfl, h2, rfl⟩ := own_zero h
    have : r = [] := by
      have := congrArg List.length h2
      simp at this
      exact this
    subst this
    exact ⟨w, hs, .refl _ _⟩
  | n + 1, f, r, v, w, hT, hm, hS, hs, h => by
    rcases hm with hm | hm
    · by_cases hend : r = [] ∧ f.todo = []
      · obtain ⟨rfl, ht⟩ := hend
        have e : stepG P true (G f ([] ++ [f0])) v = .go (G { f with mode := .returning } ([] ++ [f0])) v #[] := by
          obtain ⟨fn, tmps, todo, defers, mode, kind, round⟩ := f
          have hk := hT.kind
          have hd := hT.defers
          have hr := hT.round
          dsimp only at hk hd hr ht hm
          subst hk hd hr ht hm
          rfl
        have h2 := own_go e h
        cases n with
        | zero =>
          obtain ⟨h3, _⟩ := own_zero h2
          rw [← h3] at hzm
          cases hzm
        | succ n =>
          rcases tback (c := f0) (r := []) (f := { f with mode := .returning }) (F := F) ⟨hT.fn, hT.kind, hT.defers, hT.round, hT.todo⟩ rfl hs with ⟨o, v'', es', he⟩ | ⟨y, v'', es', w', he, _⟩
          · exact (own_end he h2).elim
          · exact absurd (own_go he h2) (f0_end n _ fz v')
      · rcases tstep (cs := r ++ [f0]) hF hT hm hs with ⟨o, v'', es', he⟩ | ⟨ch, v'', es', he⟩ | ⟨g', v'', es', w', he, _, hs', hsz, hev, hway⟩
        · exact (own_end he h).elim
        · exact absurd (own_go he h) (dead_end (F := F) n _ r ch _ fz [f0] v' (stack_mem hS) rfl ⟨hT.fn, hT.defers⟩ hzm)
        · cases hway with
          | @here f' hg hT' hm' hB =>
            subst hg
            have h2 := own_go he h
            obtain ⟨w2, hs2, hG⟩ := carry hF hz hzm K cs n f' r v'' w' hT' hm' hS hs' h2
            refine ⟨w2, hs2, ?_⟩
            cases r with
            | nil => exact .step rfl (hB K cs fun ht => absurd ⟨rfl, ht⟩ hend) hev hsz hG
            | cons c r =>
              have := hB [] (extS K cs (c :: r)) (fun _ => rfl)
              rw [extB_nil, extB_nil] at this
              exact .step rfl this hev hsz hG
          | @call e hg hTe hme hne hB =>
            subst hg
            have h2 := own_go he h
            obtain ⟨w2, hs2, hG⟩ := carry hF hz hzm K cs n e (f :: r) v'' w' hTe (.inl hme) ⟨⟨hT, hm, hne.1, finish_ok hT hm hne⟩, hS⟩ hs' h2
            refine ⟨w2, hs2, ?_⟩
            cases r with
            | nil => exact .step rfl (hB K cs) hev hsz hG
            | cons c r =>
              have := hB [] (extS K cs (c :: r))
              rw [extB_nil] at this
              exact .step rfl this hev hsz hG
          | back _ _ hr _ => rw [hm] at hr; cases hr
    · cases r with
      | nil =>
        rcases tback (c := f0) (r := []) (F := F) hT hm hs with ⟨o, v'', es', he⟩ | ⟨y, v'', es', w', he, _⟩
        · exact (own_end he h).elim
        · exact absurd (own_go he h) (f0_end n _ fz v')
      | cons c r =>
        rcases tback (c := c) (r := r ++ [f0]) (F := F) hT hm hs with ⟨o, v'', es', he⟩ | ⟨y, v'', es', w', he, _, hs', hsz, hev, hB⟩
        · exact (own_end he h).elim
        · have h2 := own_go he h
          obtain ⟨hTc, hmc, hfin⟩ := hS.1.2.2.2 y
          obtain ⟨w2, hs2, hG⟩ := carry hF hz hzm K cs n (c.finish y) r v'' w' hTc (.inl hmc) hS.2 hs' h2
          refine ⟨w2, hs2, ?_⟩
          cases r with
          | nil =>
            have := hB (extB K c) cs
            rw [hfin K] at this
            exact .step rfl this hev hsz hG
          | cons d r => exact .step rfl (hB c (extS K cs (d :: r))) hev hsz hG

/-- ████ A piece of such code, by its lone law: with whatever to do behind it, whoever called. -/
theorem seg (hF : GoodF P F) {c : Code} (hc : okCode P F c = true) {Q : Exit → Act → World → Prop} {a : Act} {v : World} (h : c.wp P Q a v) (hQ : ∀ e a' v', Q e a' v' → e = .normal ∧ a'.defers = []) (ha : a.defers = []) {f : FuncId} (hf : ∃ fn, P.funcs[f]? = some fn) {w : World} (hs : Sim X Y w v) :
    ∃ a' v', Q .normal a' v' ∧ ∀ (k : List Item) (cs : List Frame), ∃ w'', Sim X Y w'' v' ∧ Gets P X (G ((base f).at a (.code c :: k)) cs) w (G ((base f).at a' k) cs) w'' := by
  obtain ⟨e, a', v', hq, harr⟩ := h (base f) [] [f0]
  obtain ⟨rfl, hd⟩ := hQ _ _ _ hq
  obtain ⟨n, hn⟩ : Steps P (lone ((base f).at a [.code c]) [f0] v) (lone ((base f).at a' []) [f0] v') := harr
  have key := fun K cs => carry hF (X := X) (Y := Y) (fz := (base f).at a' []) (v' := v') rfl rfl K cs n ((base f).at a [.code c]) [] v w ⟨hf, rfl, ha, rfl, [], fun x hx => by simp [Frame.at] at hx; subst hx; exact hc, InvS.nil⟩ (.inl rfl) trivial hs hn
  exact ⟨a', v', hq, fun k cs => key k cs⟩

def NoX : Nat → Prop := fun _ => False
end
end Go.Lf

/-
  A lone run's frames: a step of such a goroutine is a step on its own frame, a call, or a return; it is the same with more to do behind, in another world that is like it.
-/
import Derived.Test.YtkpcmfgeanlcnaaLfD
import Derived.Control
import Derived.Conc.Own
import Derived.Conc.Listed
namespace Go.Lf
open Go.Conc

section
variable (P : Program) (F : FuncId → Bool)
/-- What may stand on a frame's list. -/
def TItem : Item → Prop
  | .code c => okCode P F c = true
  | .inBlock _ => True
  | .inLoop c => okCode P F c = true
  | .inRegion ops _ => ops.all (okOp P F) = true
  | _ => False
structure TFr (f : Frame) : Prop where
  fn : ∃ fn, P.funcs[f.fn]? = some fn
  kind : f.kind = .normal
  defers : f.defers = []
  round : f.roundOf = none
  todo : ∀ it ∈ f.todo, TItem P F it
end

/-- More to do behind. -/
def extB (K : List Item) (f : Frame) : Frame := { f with todo := f.todo ++ K }
theorem extB_nil (f : Frame) : extB [] f = f := by simp [extB]

/-- The events of a step, in the order of the two worlds. -/
def EvsP (X : Nat → Prop) (w : World) (es : Array Event) : Prop := ∀ e ∈ es, EvP X w e

section
variable {P : Program} {F : FuncId → Bool} {X : Nat → Prop} {Y : Nat → Option Obj}

/-- The step of one frame: three ways. -/
inductive Way (P : Program) (F : FuncId → Bool) (f : Frame) (cs : List Frame) (w w' : World) (es : Array Event) (g' : Goroutine) : Prop
  | here {f' : Frame} : g' = G f' cs → TFr P F f' → (f'.mode = .run ∨ f'.mode = .returning) → (∀ K cs2, (f.todo = [] → K = []) → stepG P true (G (extB K f) cs2) w = .go (G (extB K f') cs2) w' es) → Way P F f cs w w' es g'
  | call {e : Frame} : g' = G e (f :: cs) → TFr P F e → e.mode = .run → f.todo ≠ [] → (∀ K cs2, stepG P true (G (extB K f) cs2) w = .go (G e (extB K f :: cs2)) w' es) → Way P F f cs w w' es g'
  | back {c : Frame} {r : List Frame} {v : Value} : cs = c :: r → g' = G (c.finish v) r → f.mode = .returning → (∀ c2 r2, stepG P true (G f (c2 :: r2)) w = .go (G (c2.finish v) r2) w' es) → Way P F f cs w w' es g'

theorem exitTo_app {id : Nat} {K : List Item} : ∀ {k k' : List Item}, exitTo id k = some k' → exitTo id (k ++ K) = some (k' ++ K)
  | [], _, h => by simp [exitTo] at h
  | x :: k, k', h => by
    cases x <;> simp only [exitTo, List.cons_append] at h ⊢ <;> first
      | exact exitTo_app h
      | (split at h
         · rename_i hc; rw [if_pos hc]; cases h; rfl
         · rename_i hc; rw [if_neg hc]; exact exitTo_app h)
theorem exitTo_mem {id : Nat} : ∀ {k k' : List Item}, exitTo id k = some k' → ∀ it ∈ k', it ∈ k
  | [], _, h => by simp [exitTo] at h
  | x :: k, k', h => by
    intro it hit
    cases x <;> simp only [exitTo] at h <;> first
      | exact List.mem_cons_of_mem _ (exitTo_mem h it hit)
      | (split at h
         · cases h; exact List.mem_cons_of_mem _ hit
         · exact List.mem_cons_of_mem _ (exitTo_mem h it hit))

/-- The step reads the tape only as far as it draws from it. -/
def Tp (P : Program) (g : Goroutine) (v : World) (g' : Goroutine) (v' : World) (es : Array Event) : Prop :=
  v'.tape = v.tape ∧ v.drawn ≤ v'.drawn ∧ ∀ τ : Nat → Question → Nat, (∀ p, v.drawn ≤ p → p < v'.drawn → τ p = v.tape p) → stepG P true g { v with tape := τ } = .go g' { v' with tape := τ } es

/-- What is said of a step. -/
def Stepd (P : Program) (F : FuncId → Bool) (X : Nat → Prop) (Y : Nat → Option Obj) (f : Frame) (cs : List Frame) (w v : World) : Prop :=
  (∃ o v' es, stepG P true (G f cs) v = .ended o v' es) ∨ (∃ ch v' es, stepG P true (G f cs) v = .go (G { f with mode := .panicking ch } cs) v' es) ∨
  ∃ g' v' es w', stepG P true (G f cs) v = .go g' v' es ∧ Tp P (G f cs) v g' v' es ∧ Sim X Y w' v' ∧ w.heap.size ≤ w'.heap.size ∧ EvsP X w' es ∧ Way P F f cs w w' es g'

theorem ctl {f f' : Frame} {cs : List Frame} {w v : World} (hs : Sim X Y w v) (h : ∀ K cs2 u, (f.todo = [] → K = []) → stepG P true (G (extB K f) cs2) u = .go (G (extB K f') cs2) u #[]) (hT : TFr P F f') (hm : f'.mode = .run ∨ f'.mode = .returning) : Stepd P F X Y f cs w v := by
  have key : ∀ u, stepG P true (G f cs) u = .go (G f' cs) u #[] := fun u => by
    have := h [] cs u (fun _ => rfl)
    rwa [extB_nil, extB_nil] at this
  exact .inr (.inr ⟨G f' cs, v, #[], w, key v, ⟨rfl, Nat.le_refl _, fun τ _ => key _⟩, hs, Nat.le_refl _, fun e he => by simp at he, .here rfl hT hm fun K cs2 hk => h K cs2 w hk⟩)

theorem eval_ext (K : List Item) (f : Frame) : (extB K f).eval = f.eval := by
  funext x
  cases x <;> rfl

set_option maxHeartbeats 1000000 in
theorem tstep (hF : GoodF P F) {f : Frame} {cs : List Frame} {w v : World} (hT : TFr P F f) (hm : f.mode = .run) (hs : Sim X Y w v) : Stepd P F X Y f cs w v := by
  obtain ⟨fn, tmps, todo, defers, mode, kind, round⟩ := f
  obtain ⟨⟨fun0, hfn⟩, hk, hd, hr, ht⟩ := hT
  dsimp only at hfn hk hd hr ht hm
  subst hk hd hr hm
  have mk : ∀ {todo' : List Item} {mode' : FrameMode}, (∀ it ∈ todo', TItem P F it) → TFr P F ⟨fn, tmps, todo', [], mode', .normal, none⟩ := fun h => ⟨⟨fun0, hfn⟩, rfl, rfl, rfl, h⟩
  cases todo with
  | nil => exact ctl (f' := ⟨fn, tmps, [], [], .returning, .normal, none⟩) hs (fun K cs2 u hK => by rw [hK rfl]; rfl) (mk (by simp)) (.inr rfl)
  | cons it k =>
    have hit := ht it (by simp)
    have hk : ∀ x ∈ k, TItem P F x := fun x hx => ht x (by simp [hx])
    have two : ∀ {a : Item}, TItem P F a → ∀ x ∈ a :: k, TItem P F x := fun ha x hx => by
      rcases List.mem_cons.1 hx with rfl | hx
      · exact ha
      · exact hk x hx
    cases it with
    | code c =>
      cases c with
      | skip => exact ctl (f' := ⟨fn, tmps, k, [], .run, .normal, none⟩) hs (fun K cs2 u _ => rfl) (mk hk) (.inl rfl)
      | ret => exact ctl (f' := ⟨fn, tmps, .code .ret :: k, [], .returning, .normal, none⟩) hs (fun K cs2 u _ => rfl) (mk ht) (.inr rfl)
      | seq a b =>
        have hab : okCode P F a = true ∧ okCode P F b = true := by simpa [TItem, okCode] using hit
        exact ctl (f' := ⟨fn, tmps, .code a :: .code b :: k, [], .run, .normal, none⟩) hs (fun K cs2 u _ => rfl) (mk fun x hx => by
          rcases List.mem_cons.1 hx with rfl | hx
          · exact hab.1
          · exact two (a := .code b) hab.2 x hx) (.inl rfl)
      | cond c a b =>
        have hab : okCode P F a = true ∧ okCode P F b = true := by simpa [TItem, okCode] using hit
        cases he : (⟨fn, tmps, .code (.cond c a b) :: k, [], .run, .normal, none⟩ : Frame).eval c with
        | bool t =>
          refine ctl (f' := ⟨fn, tmps, .code (if t then a else b) :: k, [], .run, .normal, none⟩) hs (fun K cs2 u _ => ?_) (mk (two (a := .code (if t then a else b)) (by cases t <;> simp [TItem, hab]))) (.inl rfl)
          have he' : (extB K ⟨fn, tmps, .code (.cond c a b) :: k, [], .run, .normal, none⟩).eval c = .bool t := by rw [eval_ext]; exact he
          simp only [extB, List.cons_append] at he'
          simp only [G, extB, stepG, stepG.exec, List.cons_append, he']
        | _ => exact .inl ⟨_, _, _, by simp only [G, stepG, stepG.exec, he]; rfl⟩
      | block id c => exact ctl (f' := ⟨fn, tmps, .code c :: .inBlock id :: k, [], .run, .normal, none⟩) hs (fun K cs2 u _ => rfl) (mk fun x hx => by
          rcases List.mem_cons.1 hx with rfl | hx
          · exact hit
          · exact two (a := .inBlock id) trivial x hx) (.inl rfl)
      | loop c => exact ctl (f' := ⟨fn, tmps, .code c :: .inLoop c :: k, [], .run, .normal, none⟩) hs (fun K cs2 u _ => rfl) (mk fun x hx => by
          rcases List.mem_cons.1 hx with rfl | hx
          · exact hit
          · exact two (a := .inLoop c) hit x hx) (.inl rfl)
      | exit id =>
        cases he : exitTo id k with
        | none => exact .inl ⟨_, _, _, by simp only [G, stepG, stepG.exec, he, Option.elim]; rfl⟩
        | some k' => exact ctl (f' := ⟨fn, tmps, k', [], .run, .normal, none⟩) hs (fun K cs2 u _ => by simp only [G, extB, stepG, stepG.exec, List.cons_append, exitTo_app he, Option.elim]) (mk fun x hx => hk x (exitTo_mem he x hx)) (.inl rfl)
      | region id ops draw =>
        have ho : ops.all (okOp P F) = true := hit
        cases draw with
        | false => exact ctl (f' := ⟨fn, tmps, .inRegion ops (List.range ops.size) :: k, [], .run, .normal, none⟩) hs (fun K cs2 u _ => rfl) (mk (two (a := .inRegion ops _) ho)) (.inl rfl)
        | true =>
          have hc : ∀ u : World, (choose (.order fn id)).run P u = .ok (u.tape u.drawn (.order fn id)) { u with drawn := u.drawn + 1 } := fun u => rfl
          have et : w.tape w.drawn (.order fn id) = v.tape v.drawn (.order fn id) := by simpa using hs.str 0 (.order fn id)
          refine .inr (.inr ⟨_, { v with drawn := v.drawn + 1 }, #[], { w with drawn := w.drawn + 1 }, by simp only [G, stepG, stepG.exec, Bool.not_true, Bool.false_eq_true, if_false, hc], ⟨rfl, Nat.le_succ _, fun τ hτ => by simp only [G, stepG, stepG.exec, Bool.not_true, Bool.false_eq_true, if_false, hc, hτ v.drawn (Nat.le_refl _) (Nat.lt_succ_self _)]⟩, hs.draw, Nat.le_refl _, fun e he => by simp at he,
            .here (f' := ⟨fn, tmps, .inRegion ops (Region.schedule (P.follows .mixedOrders) ops (v.tape v.drawn (.order fn id))) :: k, [], .run, .normal, none⟩) rfl (mk (two (a := .inRegion ops _) ho)) (.inl rfl) fun K cs2 _ => ?_⟩)
          simp only [G, extB, stepG, stepG.exec, List.cons_append, Bool.not_true, Bool.false_eq_true, if_false, hc, et]
      | _ => cases hit
    | inBlock id => exact ctl (f' := ⟨fn, tmps, k, [], .run, .normal, none⟩) hs (fun K cs2 u _ => rfl) (mk hk) (.inl rfl)
    | inLoop c => exact ctl (f' := ⟨fn, tmps, .code c :: .inLoop c :: k, [], .run, .normal, none⟩) hs (fun K cs2 u _ => rfl) (mk fun x hx => by
          rcases List.mem_cons.1 hx with rfl | hx
          · exact hit
          · exact two (a := .inLoop c) hit x hx) (.inl rfl)
    | inRegion ops is =>
      cases is with
      | nil => exact ctl (f' := ⟨fn, tmps, k, [], .run, .normal, none⟩) hs (fun K cs2 u _ => rfl) (mk hk) (.inl rfl)
      | cons i rest =>
        have ho : ops.all (okOp P F) = true := hit
        cases hw : ((ops[i]?).map (Region.wanted · (yielded ops tmps))).getD false with
        | false =>
          refine ctl (f' := (⟨fn, tmps, .inRegion ops (i :: rest) :: k, [], .run, .normal, none⟩ : Frame).finish undef) hs (fun K cs2 u _ => ?_) ⟨⟨fun0, hfn⟩, rfl, rfl, rfl, two (a := .inRegion ops _) ho⟩ (.inl rfl)
          simp only [G, extB, stepG, stepG.exec, List.cons_append, hw, Bool.false_eq_true, if_false, Frame.finish]
        | true =>
          cases hoi : ops[i]? with
          | none => rw [hoi] at hw; cases hw
          | some o =>
            have hok : okOp P F o = true := Array.all_eq_true_iff_forall_mem.1 ho o (Array.mem_of_getElem? hoi)
            have eA : ∀ K cs2 u, stepG P true (G (extB K ⟨fn, tmps, .inRegion ops (i :: rest) :: k, [], .run, .normal, none⟩) cs2) u =
                stepG.apply P true (extB K ⟨fn, tmps, .inRegion ops (i :: rest) :: k, [], .run, .normal, none⟩) cs2 none (execOp (⟨fn, tmps, .inRegion ops (i :: rest) :: k, [], .run, .normal, none⟩ : Frame).eval o) u := fun K cs2 u => by
              rw [← eval_ext K]
              rw [hoi] at hw
              simp only [G, extB, stepG, stepG.exec, List.cons_append, stepG.oper, Frame.oper?, hoi]
              rw [if_pos hw]
            obtain ⟨hpl, hlf⟩ := exec_ok hF (ρ := (⟨fn, tmps, .inRegion ops (i :: rest) :: k, [], .run, .normal, none⟩ : Frame).eval) (fun _ => rfl) hok
            generalize execOp (⟨fn, tmps, .inRegion ops (i :: rest) :: k, [], .run, .normal, none⟩ : Frame).eval o = sem at eA hpl hlf
            have eA0 := eA [] cs v
            rw [extB_nil] at eA0
            cases hrun : sem.runT P v #[] with
            | mk r es =>
              cases r with
              | halt h v' =>
                have hh := plain_halts sem w v #[] h v' es hpl hs hrun
                cases h with
                | panic u =>
                  exact .inr (.inl ⟨_, _, _, by rw [eA0]; simp only [stepG.apply, if_true, hrun]; rfl⟩)
                | stuck s => exact .inl ⟨_, _, _, by rw [eA0]; simp only [stepG.apply, if_true, hrun]; rfl⟩
                | unsupported u =>
                  cases u with
                  | initOrder b => exact hh.elim
                  | _ => exact .inl ⟨_, _, _, by rw [eA0]; simp only [stepG.apply, if_true, hrun]; rfl⟩
                | _ => exact hh.elim
              | ok x v' =>
                obtain ⟨w', hrun', hs', hsz, hev⟩ := sim_run sem w v #[] x v' es hpl hs hrun
                obtain ⟨ht1, ht2, ht3⟩ := tape_run sem v #[] x v' es hpl hs.nv hrun
                have eAτ : ∀ τ : Nat → Question → Nat, stepG P true (G ⟨fn, tmps, .inRegion ops (i :: rest) :: k, [], .run, .normal, none⟩ cs) { v with tape := τ } = stepG.apply P true ⟨fn, tmps, .inRegion ops (i :: rest) :: k, [], .run, .normal, none⟩ cs none sem { v with tape := τ } := fun τ => by
                  have := eA [] cs { v with tape := τ }
                  rwa [extB_nil] at this
                have hsz' : w.heap.size ≤ w'.heap.size := by rw [hs.size, hs'.size]; exact hsz
                have hevs : EvsP X w' (seen P fn es) := fun e he => (hev e (mem_seen he)).resolve_left (by simp)
                rcases leaf_run sem hlf v #[] x v' es hrun with ⟨u, rfl⟩ | rfl | ⟨f1, as, hf1, rfl⟩
                · refine .inr (.inr ⟨_, _, seen P fn es, w', by rw [eA0]; simp only [stepG.apply, if_true, hrun, GStep.after]; rfl, ⟨ht1, ht2, fun τ hτ => by rw [eAτ]; simp only [stepG.apply, if_true, ht3 τ hτ, GStep.after]; rfl⟩, hs', hsz', hevs,
                    .here (f' := (⟨fn, tmps, .inRegion ops (i :: rest) :: k, [], .run, .normal, none⟩ : Frame).finish u) rfl (by exact ⟨⟨fun0, hfn⟩, rfl, rfl, rfl, two (a := .inRegion ops _) ho⟩) (.inl rfl) fun K cs2 _ => ?_⟩)
                  rw [eA]
                  simp only [stepG.apply, if_true, hrun', GStep.after]
                  rfl
                · refine .inr (.inr ⟨_, _, seen P fn es, w', by rw [eA0]; simp only [stepG.apply, if_true, hrun, GStep.after]; rfl, ⟨ht1, ht2, fun τ hτ => by rw [eAτ]; simp only [stepG.apply, if_true, ht3 τ hτ, GStep.after]; rfl⟩, hs', hsz', hevs,
                    .here (f' := (⟨fn, tmps, .inRegion ops (i :: rest) :: k, [], .run, .normal, none⟩ : Frame).finish undef) rfl (by exact ⟨⟨fun0, hfn⟩, rfl, rfl, rfl, two (a := .inRegion ops _) ho⟩) (.inl rfl) fun K cs2 _ => ?_⟩)
                  rw [eA]
                  simp only [stepG.apply, if_true, hrun', GStep.after]
                  rfl
                · obtain ⟨fn1, c1, g1, g2, g3, g4⟩ := hF f1 hf1
                  refine .inr (.inr ⟨_, _, seen P fn es, w', by rw [eA0]; simp only [stepG.apply, if_true, hrun, GStep.after]; rfl, ⟨ht1, ht2, fun τ hτ => by rw [eAτ]; simp only [stepG.apply, if_true, ht3 τ hτ, GStep.after]; rfl⟩, hs', hsz', hevs,
                    .call (e := Frame.enter P f1 as .normal) rfl ⟨⟨fn1, g1⟩, rfl, rfl, rfl, fun x hx => ?_⟩ rfl (by simp) fun K cs2 => ?_⟩)
                  · simp only [Frame.enter, g1, Option.bind_some, g3, Option.getD_some, List.mem_singleton] at hx
                    subst hx
                    exact g4
                  · rw [eA]
                    simp only [stepG.apply, if_true, hrun', GStep.after]
                    rfl
    | _ => cases hit
end
end Go.Lf

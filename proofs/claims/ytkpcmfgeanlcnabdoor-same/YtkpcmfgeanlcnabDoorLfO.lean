/-
  A piece of code that is run alone, in a frame that is a round of a loop over a function, or has something deferred.
-/
import Derived.Test.YtkpcmfgeanlcnabDoorLfK
import Derived.RangeFuncRecord
import Derived.Calls
import Derived.Orders
namespace Go.Lf
open Go.Conc

/-- What stands behind a piece, and around it. -/
structure Ext where
  k : List Item
  ro : Option Nat
  ds : List Deferred
def extD (E : Ext) (f : Frame) : Frame := { f with todo := f.todo ++ E.k, roundOf := E.ro, defers := E.ds }
theorem extD_none {f : Frame} (h1 : f.roundOf = none) (h2 : f.defers = []) : extD ⟨[], none, []⟩ f = f := by
  obtain ⟨fn, tmps, todo, defers, mode, kind, round⟩ := f
  dsimp only at h1 h2
  subst h1 h2
  simp [extD]
def Ends (t : List Item) : Prop := t = [] ∨ ∃ k, t = .code .ret :: k

section
variable {P : Program} {F : FuncId → Bool} {X : Nat → Prop} {Y : Nat → Option Obj} {D : Nat → World → Array Event → Prop} {Stop : Goroutine → World → Prop}

theorem evalD (E : Ext) (f : Frame) : (extD E f).eval = f.eval := by
  funext x
  cases x <;> rfl
theorem oper_plain {fr : Frame} {o : Oper} {cs : List Frame} {dy : Option Dying} {w : World} (h : ∀ c, o.op ≠ .defer c) (ho : fr.oper? = some o) : stepG.oper P true fr cs dy w = stepG.apply P true fr cs dy (execOp fr.eval o) w := by
  unfold stepG.oper
  rw [ho]
  dsimp only
  split
  · rename_i hx; exact absurd hx (h _)
  · rfl

/-- The step of one frame: two ways. -/
inductive WayD (P : Program) (F : FuncId → Bool) (f : Frame) (cs : List Frame) (w w' : World) (es : Array Event) (g' : Goroutine) : Prop
  | here {f' : Frame} : g' = G f' cs → TFr P F f' → (f'.mode = .run ∨ f'.mode = .returning) → (∀ E cs2, (Ends f.todo → E = ⟨[], none, []⟩) → stepG P true (G (extD E f) cs2) w = .go (G (extD E f') cs2) w' es) → WayD P F f cs w w' es g'
  | call {e : Frame} : g' = G e (f :: cs) → TFr P F e → e.mode = .run → (f.todo ≠ [] ∧ ∀ u, TFr P F (f.finish u)) → (∀ E cs2, stepG P true (G (extD E f) cs2) w = .go (G e (extD E f :: cs2)) w' es) → WayD P F f cs w w' es g'

def SteppedD (P : Program) (F : FuncId → Bool) (X : Nat → Prop) (Y : Nat → Option Obj) (f : Frame) (cs : List Frame) (w v : World) : Prop :=
  (∃ o v' es, stepG P true (G f cs) v = .ended o v' es) ∨ (∃ ch v' es, stepG P true (G f cs) v = .go (G { f with mode := .panicking ch } cs) v' es) ∨
  ∃ g' v' es w', stepG P true (G f cs) v = .go g' v' es ∧ Tp P (G f cs) v g' v' es ∧ Sim X Y w' v' ∧ w.heap.size ≤ w'.heap.size ∧ EvsP X w' es ∧ WayD P F f cs w w' es g'

theorem ctlD {f f' : Frame} {cs : List Frame} {w v : World} (hs : Sim X Y w v) (h : ∀ E cs2 u, (Ends f.todo → E = ⟨[], none, []⟩) → stepG P true (G (extD E f) cs2) u = .go (G (extD E f') cs2) u #[]) (hT : TFr P F f') (hm : f'.mode = .run ∨ f'.mode = .returning) (h1 : f.roundOf = none := by rfl) (h2 : f.defers = [] := by rfl) : SteppedD P F X Y f cs w v := by
  have key : ∀ u, stepG P true (G f cs) u = .go (G f' cs) u #[] := fun u => by
    have := h ⟨[], none, []⟩ cs u (fun _ => rfl)
    rwa [extD_none h1 h2, extD_none hT.round hT.defers] at this
  exact .inr (.inr ⟨G f' cs, v, #[], w, key v, ⟨rfl, Nat.le_refl _, fun τ _ => key _⟩, hs, Nat.le_refl _, fun e he => by simp at he, .here rfl hT hm fun K cs2 hk => h K cs2 w hk⟩)

set_option maxHeartbeats 1000000 in
theorem tstepD (hF : GoodF P F) {f : Frame} {cs : List Frame} {w v : World} (hT : TFr P F f) (hm : f.mode = .run) (hs : Sim X Y w v) : SteppedD P F X Y f cs w v := by
  obtain ⟨fn, tmps, todo, defers, mode, kind, round⟩ := f
  obtain ⟨⟨fun0, hfn⟩, hk, hd, hr, S, ht, hS⟩ := hT
  dsimp only at hfn hk hd hr ht hS hm
  subst hk hd hr hm
  have mk : ∀ {todo' : List Item} {mode' : FrameMode}, (∀ it ∈ todo', TItem P F S it) → TFr P F ⟨fn, tmps, todo', [], mode', .normal, none⟩ := fun h => ⟨⟨fun0, hfn⟩, rfl, rfl, rfl, S, h, hS⟩
  cases todo with
  | nil => exact ctlD (f' := ⟨fn, tmps, [], [], .returning, .normal, none⟩) hs (fun K cs2 u hK => by rw [hK (.inl rfl)]; rfl) (mk (by simp)) (.inr rfl)
  | cons it k =>
    have hit := ht it (by simp)
    have hk : ∀ x ∈ k, TItem P F S x := fun x hx => ht x (by simp [hx])
    have two : ∀ {a : Item}, TItem P F S a → ∀ x ∈ a :: k, TItem P F S x := fun ha x hx => by
      rcases List.mem_cons.1 hx with rfl | hx
      · exact ha
      · exact hk x hx
    cases it with
    | code c =>
      cases c with
      | skip => exact ctlD (f' := ⟨fn, tmps, k, [], .run, .normal, none⟩) hs (fun K cs2 u _ => rfl) (mk hk) (.inl rfl)
      | ret => exact ctlD (f' := ⟨fn, tmps, .code .ret :: k, [], .returning, .normal, none⟩) hs (fun K cs2 u hK => by rw [hK (.inr ⟨_, rfl⟩)]; simp only [G, extD, stepG, stepG.exec, List.append_nil]; rfl) (mk ht) (.inr rfl)
      | seq a b =>
        have hab : okCodeS P F S a = true ∧ okCodeS P F S b = true := by simpa [TItem, okCodeS] using hit
        exact ctlD (f' := ⟨fn, tmps, .code a :: .code b :: k, [], .run, .normal, none⟩) hs (fun K cs2 u _ => rfl) (mk fun x hx => by
          rcases List.mem_cons.1 hx with rfl | hx
          · exact hab.1
          · exact two (a := .code b) hab.2 x hx) (.inl rfl)
      | cond c a b =>
        have hab : okCodeS P F S a = true ∧ okCodeS P F S b = true := by simpa [TItem, okCodeS] using hit
        cases he : (⟨fn, tmps, .code (.cond c a b) :: k, [], .run, .normal, none⟩ : Frame).eval c with
        | bool t =>
          refine ctlD (f' := ⟨fn, tmps, .code (if t then a else b) :: k, [], .run, .normal, none⟩) hs (fun K cs2 u _ => ?_) (mk (two (a := .code (if t then a else b)) (by cases t <;> simp [TItem, hab]))) (.inl rfl)
          have he' : (extD K ⟨fn, tmps, .code (.cond c a b) :: k, [], .run, .normal, none⟩).eval c = .bool t := by rw [evalD]; exact he
          simp only [extD, List.cons_append] at he'
          simp only [G, extD, stepG, stepG.exec, List.cons_append, he']
        | _ => exact .inl ⟨_, _, _, by simp only [G, stepG, stepG.exec, he]; rfl⟩
      | block id c => exact ctlD (f' := ⟨fn, tmps, .code c :: .inBlock id :: k, [], .run, .normal, none⟩) hs (fun K cs2 u _ => rfl) (mk fun x hx => by
          rcases List.mem_cons.1 hx with rfl | hx
          · exact hit
          · exact two (a := .inBlock id) trivial x hx) (.inl rfl)
      | loop c => exact ctlD (f' := ⟨fn, tmps, .code c :: .inLoop c :: k, [], .run, .normal, none⟩) hs (fun K cs2 u _ => rfl) (mk fun x hx => by
          rcases List.mem_cons.1 hx with rfl | hx
          · exact hit
          · exact two (a := .inLoop c) hit x hx) (.inl rfl)
      | exit id =>
        cases he : exitTo id k with
        | none => exact .inl ⟨_, _, _, by simp only [G, stepG, stepG.exec, he, Option.elim]; rfl⟩
        | some k' => exact ctlD (f' := ⟨fn, tmps, k', [], .run, .normal, none⟩) hs (fun K cs2 u _ => by simp only [G, extD, stepG, stepG.exec, List.cons_append, exitTo_app he, Option.elim]) (mk fun x hx => hk x (exitTo_mem he x hx)) (.inl rfl)
      | region id ops draw =>
        have ho : ops.all (okOpS P F S) = true := hit
        cases draw with
        | false => exact ctlD (f' := ⟨fn, tmps, .inRegion ops (List.range ops.size) :: k, [], .run, .normal, none⟩) hs (fun K cs2 u _ => rfl) (mk (two (a := .inRegion ops _) ho)) (.inl rfl)
        | true =>
          have hc : ∀ u : World, (choose (.order fn id)).run P u = .ok (u.tape u.drawn (.order fn id)) { u with drawn := u.drawn + 1 } := fun u => rfl
          have et : w.tape w.drawn (.order fn id) = v.tape v.drawn (.order fn id) := by simpa using hs.str 0 (.order fn id)
          refine .inr (.inr ⟨_, { v with drawn := v.drawn + 1 }, #[], { w with drawn := w.drawn + 1 }, by simp only [G, stepG, stepG.exec, Bool.not_true, Bool.false_eq_true, if_false, hc], ⟨rfl, Nat.le_succ _, fun τ hτ => by simp only [G, stepG, stepG.exec, Bool.not_true, Bool.false_eq_true, if_false, hc, hτ v.drawn (Nat.le_refl _) (Nat.lt_succ_self _)]⟩, hs.draw, Nat.le_refl _, fun e he => by simp at he,
            .here (f' := ⟨fn, tmps, .inRegion ops (Region.schedule (P.follows .mixedOrders) ops (v.tape v.drawn (.order fn id))) :: k, [], .run, .normal, none⟩) rfl (mk (two (a := .inRegion ops _) ho)) (.inl rfl) fun K cs2 _ => ?_⟩)
          simp only [G, extD, stepG, stepG.exec, List.cons_append, Bool.not_true, Bool.false_eq_true, if_false, hc, et]
      | _ => cases hit
    | inBlock id => exact ctlD (f' := ⟨fn, tmps, k, [], .run, .normal, none⟩) hs (fun K cs2 u _ => rfl) (mk hk) (.inl rfl)
    | inLoop c => exact ctlD (f' := ⟨fn, tmps, .code c :: .inLoop c :: k, [], .run, .normal, none⟩) hs (fun K cs2 u _ => rfl) (mk fun x hx => by
          rcases List.mem_cons.1 hx with rfl | hx
          · exact hit
          · exact two (a := .inLoop c) hit x hx) (.inl rfl)
    | inRegion ops is =>
      cases is with
      | nil => exact ctlD (f' := ⟨fn, tmps, k, [], .run, .normal, none⟩) hs (fun K cs2 u _ => rfl) (mk hk) (.inl rfl)
      | cons i rest =>
        have ho : ops.all (okOpS P F S) = true := hit
        cases hw : ((ops[i]?).map (Region.wanted · (yielded ops tmps))).getD false with
        | false =>
          refine ctlD (f' := (⟨fn, tmps, .inRegion ops (i :: rest) :: k, [], .run, .normal, none⟩ : Frame).finish undef) hs (fun K cs2 u _ => ?_) ⟨⟨fun0, hfn⟩, rfl, rfl, rfl, S, two (a := .inRegion ops _) ho, hS.un _⟩ (.inl rfl)
          simp only [G, extD, stepG, stepG.exec, List.cons_append, hw, Bool.false_eq_true, if_false, Frame.finish]
        | true =>
          cases hoi : ops[i]? with
          | none => rw [hoi] at hw; cases hw
          | some o =>
            have hok : okOpS P F S o = true := Array.all_eq_true_iff_forall_mem.1 ho o (Array.mem_of_getElem? hoi)
            have eA : ∀ K cs2 u, stepG P true (G (extD K ⟨fn, tmps, .inRegion ops (i :: rest) :: k, [], .run, .normal, none⟩) cs2) u =
                stepG.apply P true (extD K ⟨fn, tmps, .inRegion ops (i :: rest) :: k, [], .run, .normal, none⟩) cs2 none (execOp (⟨fn, tmps, .inRegion ops (i :: rest) :: k, [], .run, .normal, none⟩ : Frame).eval o) u := fun K cs2 u => by
              rw [← evalD K]
              rw [hoi] at hw
              simp only [G, extD, stepG, stepG.exec, List.cons_append, hoi]
              rw [if_pos hw]
              exact oper_plain (fun c h => by unfold okOpS at hok; rw [h, Bool.and_eq_true] at hok; cases hok.2) (by simp only [Frame.oper?, hoi])
            obtain ⟨hpl, hlf⟩ := exec_ok hF (ρ := (⟨fn, tmps, .inRegion ops (i :: rest) :: k, [], .run, .normal, none⟩ : Frame).eval) (fun _ => rfl) (fun _ => rfl) hS hok
            have hsr : ∀ {x : FuncId × Nat} {v v' : World} {es es' : Array Event} {n : Next}, okSrc S x o.op = true → (execOp (⟨fn, tmps, .inRegion ops (i :: rest) :: k, [], .run, .normal, none⟩ : Frame).eval o).runT P v es = (.ok n v', es') → ∃ u, n = .value u ∧ (u = undef ∨ ∃ fs cs, u = .func (.func x.1) fs cs ∧ fs.size + cs.size = x.2) := fun h hr => src_run (fun _ => rfl) hS h hr
            have fin : ∀ u, (⟨fn, tmps, .inRegion ops (i :: rest) :: k, [], .run, .normal, none⟩ : Frame).finish u = ⟨fn, putD o.dst tmps u, .inRegion ops rest :: k, [], .run, .normal, none⟩ := fun u => by
              simp only [Frame.finish, hoi, Option.bind_some]
              rfl
            generalize execOp (⟨fn, tmps, .inRegion ops (i :: rest) :: k, [], .run, .normal, none⟩ : Frame).eval o = sem at eA hpl hlf hsr
            have eA0 := eA ⟨[], none, []⟩ cs v
            rw [extD_none rfl rfl] at eA0
            cases hrun : sem.runT P v #[] with
            | mk r es =>
              cases r with
              | halt h v' =>
                have hh := hpl.halts w v #[] h v' es hs hrun
                cases h with
                | panic u =>
                  exact .inr (.inl ⟨_, _, _, by rw [eA0]; simp only [stepG.apply, if_true, hrun]; rfl⟩)
                | stuck s => exact .inl ⟨_, _, _, by rw [eA0]; simp only [stepG.apply, if_true, hrun]; rfl⟩
                | unsupported u =>
                  cases u with
                  | initOrder b => exact hh.elim
                  | _ => exact .inl ⟨_, _, _, by rw [eA0]; simp only [stepG.apply, if_true, hrun]; rfl⟩
                | _ => exact hh.elim
              | ok x v' =>
                obtain ⟨w', hrun', hs', hsz, hev⟩ := hpl.sim w v #[] x v' es hs hrun
                obtain ⟨ht1, ht2, ht3⟩ := hpl.tape v #[] x v' es hs.nv hrun
                have eAτ : ∀ τ : Nat → Question → Nat, stepG P true (G ⟨fn, tmps, .inRegion ops (i :: rest) :: k, [], .run, .normal, none⟩ cs) { v with tape := τ } = stepG.apply P true ⟨fn, tmps, .inRegion ops (i :: rest) :: k, [], .run, .normal, none⟩ cs none sem { v with tape := τ } := fun τ => by
                  have := eA ⟨[], none, []⟩ cs { v with tape := τ }
                  rwa [extD_none rfl rfl] at this
                have hsz' : w.heap.size ≤ w'.heap.size := by rw [hs.size, hs'.size]; exact hsz
                have hevs : EvsP X w' (seen P fn es) := fun e he => (hev e (mem_seen he)).resolve_left (by simp)
                rcases leaf_run sem hlf v #[] x v' es hrun with ⟨u, rfl⟩ | rfl | ⟨f1, as, hf1, has, rfl⟩
                · refine .inr (.inr ⟨_, _, seen P fn es, w', by rw [eA0]; simp only [stepG.apply, if_true, hrun, GStep.after]; rfl, ⟨ht1, ht2, fun τ hτ => by rw [eAτ]; simp only [stepG.apply, if_true, ht3 τ hτ, GStep.after]; rfl⟩, hs', hsz', hevs,
                    .here (f' := (⟨fn, tmps, .inRegion ops (i :: rest) :: k, [], .run, .normal, none⟩ : Frame).finish u) rfl (by rw [fin]; exact ⟨⟨fun0, hfn⟩, rfl, rfl, rfl, S, two (a := .inRegion ops _) ho, hS.put fun x hx hd => by obtain ⟨u', e, h⟩ := hsr (ok_src hok hx hd) hrun; cases e; exact h⟩) (.inl rfl) fun K cs2 _ => ?_⟩)
                  rw [eA]
                  simp only [stepG.apply, if_true, hrun', GStep.after]
                  rfl
                · refine .inr (.inr ⟨_, _, seen P fn es, w', by rw [eA0]; simp only [stepG.apply, if_true, hrun, GStep.after]; rfl, ⟨ht1, ht2, fun τ hτ => by rw [eAτ]; simp only [stepG.apply, if_true, ht3 τ hτ, GStep.after]; rfl⟩, hs', hsz', hevs,
                    .here (f' := (⟨fn, tmps, .inRegion ops (i :: rest) :: k, [], .run, .normal, none⟩ : Frame).finish undef) rfl (by rw [fin]; exact ⟨⟨fun0, hfn⟩, rfl, rfl, rfl, S, two (a := .inRegion ops _) ho, hS.un _⟩) (.inl rfl) fun K cs2 _ => ?_⟩)
                  rw [eA]
                  simp only [stepG.apply, if_true, hrun', GStep.after]
                  rfl
                · obtain ⟨fn1, c1, S1, g1, g2, g3, g4, g5⟩ := hf1
                  refine .inr (.inr ⟨_, _, seen P fn es, w', by rw [eA0]; simp only [stepG.apply, if_true, hrun, GStep.after]; rfl, ⟨ht1, ht2, fun τ hτ => by rw [eAτ]; simp only [stepG.apply, if_true, ht3 τ hτ, GStep.after]; rfl⟩, hs', hsz', hevs,
                    .call (e := Frame.enter P f1 as .normal) rfl ⟨⟨fn1, g1⟩, rfl, rfl, rfl, S1, fun x hx => ?_, InvS.enter has g5⟩ rfl ⟨by simp, fun u => by rw [fin]; exact ⟨⟨fun0, hfn⟩, rfl, rfl, rfl, S, two (a := .inRegion ops _) ho, hS.put fun x hx hd => by obtain ⟨u', e, h⟩ := hsr (ok_src hok hx hd) hrun; cases e⟩⟩ fun K cs2 => ?_⟩)
                  · simp only [Frame.enter, g1, Option.bind_some, g3, Option.getD_some, List.mem_singleton] at hx
                    subst hx
                    exact g4
                  · rw [eA]
                    simp only [stepG.apply, if_true, hrun', GStep.after]
                    rfl
    | _ => cases hit

def extSD (E : Ext) (cs : List Frame) : List Frame → List Frame
  | [] => cs
  | [b] => extD E b :: cs
  | c :: d :: r => c :: extSD E cs (d :: r)
def extGD (E : Ext) (cs : List Frame) (f : Frame) (r : List Frame) : Goroutine :=
  match r with
  | [] => G (extD E f) cs
  | c :: r => G f (extSD E cs (c :: r))
theorem finishD {c : Frame} (hT : TFr P F c) (hne : c.todo ≠ []) (E : Ext) (v : Value) : (extD E c).finish v = extD E (c.finish v) := by
  obtain ⟨fn, tmps, todo, defers, mode, kind, round⟩ := c
  obtain ⟨h1, hk, hd, hr, S, ht, _⟩ := hT
  dsimp only at h1 hk hd hr ht hne
  subst hk hd hr
  cases todo with
  | nil => exact absurd rfl hne
  | cons it k =>
    have hit := ht it (by simp)
    cases it with
    | inRegion ops is =>
      cases is with
      | nil => rfl
      | cons i rest => rfl
    | code c => rfl
    | inBlock id => rfl
    | inLoop c => rfl
    | _ => cases hit
theorem ends_ret {f : Frame} (hT : TFr P F f) (hm : f.mode = .run) (ht : Ends f.todo) (cs : List Frame) (u : World) : stepG P true (G f cs) u = .go (G { f with mode := .returning } cs) u #[] := by
  obtain ⟨fn, tmps, todo, defers, mode, kind, round⟩ := f
  have hk := hT.kind
  have hd := hT.defers
  have hr := hT.round
  dsimp only at hk hd hr ht hm
  subst hk hd hr hm
  rcases ht with rfl | ⟨k, rfl⟩ <;> rfl

variable (P F X Y D Stop) in
structure SgD (E : Ext) (cs : List Frame) (fn : FuncId) (Q : Exit → Act → World → Prop) (s : Sg) : Prop where
  tf : TFr P F s.f
  mode : s.f.mode = .run ∨ s.f.mode = .returning
  stack : Stack P F s.r
  sim : SimT X Y s.w s.u
  law : ∀ τ : Nat → Question → Nat, (∀ p, p < s.u.drawn → τ p = s.u.tape p) → ∃ n a' v', ownN P n s.f (s.r ++ [f0]) { s.u with tape := τ } ((base fn).at a' []) [f0] v' ∧ Q .normal a' v'
  no : ¬ GoesI P D Stop (extGD E cs s.f s.r) s.w

theorem sgD_end {K : Ext} {cs : List Frame} {fn : FuncId} {Q : Exit → Act → World → Prop} (hK : ∀ a' v' w', Q .normal a' v' → SimT X Y w' v' → GoesI P D Stop (G (extD K ((base fn).at a' [])) cs) w') {s : Sg} (hi : SgD P F X Y D Stop K cs fn Q s) {τ : Nat → Question → Nat} {a' : Act} {v' : World}
    (h : ownN P 0 s.f (s.r ++ [f0]) { s.u with tape := τ } ((base fn).at a' []) [f0] v') (hq : Q .normal a' v') : False := by
  obtain ⟨h1, h2, h3⟩ := own_zero h
  have hr : s.r = [] := by
    have := congrArg List.length h2
    simp at this
    exact this
  apply hi.no
  have : extGD K cs s.f s.r = G (extD K ((base fn).at a' [])) cs := by rw [hr, h1]; rfl
  rw [this]
  refine hK a' v' s.w hq ?_
  rw [← h3]
  exact hi.sim.to τ s.u.drawn

theorem sgD_next (hF : GoodF P F) (hD : Dok X D) {K : Ext} {cs : List Frame} {fn : FuncId} {Q : Exit → Act → World → Prop} (hK : ∀ a' v' w', Q .normal a' v' → SimT X Y w' v' → GoesI P D Stop (G (extD K ((base fn).at a' [])) cs) w') {s : Sg}
    (hi : SgD P F X Y D Stop K cs fn Q s) : ∃ s', SgD P F X Y D Stop K cs fn Q s' ∧ SgNext P s s' := by
  have hst : (extGD K cs s.f s.r).status = .running := by cases s.r <;> rfl
  obtain ⟨d, hd⟩ : ∃ d, ∀ g' w' es, stepG P true (extGD K cs s.f s.r) (s.w.at d) = .go g' w' es → D s.w.heap.size w' es → ¬ GoesI P D Stop g' w' := by
    refine Classical.byContradiction fun hno => hi.no (.next hst fun d => ?_)
    refine Classical.byContradiction fun hd => hno ⟨d, fun g' w' es h1 h2 h3 => hd ⟨g', w', es, h1, h2, h3⟩⟩
  let τ₁ : Nat → Question → Nat := fun p q => if p < s.u.drawn then s.u.tape p q else s.w.tape (d + (p - s.u.drawn)) q
  have hs : Sim X Y (s.w.at d) { s.u with tape := τ₁ } := hi.sim.re d s.u.drawn τ₁ fun i q => by
    show s.w.tape (d + i) q = if s.u.drawn + i < s.u.drawn then _ else _
    rw [if_neg (by omega), show s.u.drawn + i - s.u.drawn = i by omega]
  have hag : ∀ p, p < s.u.drawn → τ₁ p = s.u.tape p := fun p hp => by
    funext q
    show (if p < s.u.drawn then _ else _) = _
    rw [if_pos hp]
  obtain ⟨n, a', v', hn, hq⟩ := hi.law τ₁ hag
  cases n with
  | zero => exact (sgD_end hK hi hn hq).elim
  | succ n =>
    -- what is to be shown once a step is found
    have mk : ∀ (f' : Frame) (r' : List Frame) (u₂ w₂ : World) (es : Array Event), TFr P F f' → (f'.mode = .run ∨ f'.mode = .returning) → Stack P F r' → Sim X Y w₂ u₂ → Tp P (G s.f (s.r ++ [f0])) { s.u with tape := τ₁ } (G f' (r' ++ [f0])) u₂ es →
        stepG P true (extGD K cs s.f s.r) (s.w.at d) = .go (extGD K cs f' r') w₂ es → s.w.heap.size ≤ w₂.heap.size → EvsP X w₂ es → ∃ s', SgD P F X Y D Stop K cs fn Q s' ∧ SgNext P s s' := fun f' r' u₂ w₂ es h1 h2 h3 h4 h5 h6 h8 h7 => by
      obtain ⟨t1, t2, t3⟩ := h5
      dsimp only at t1 t2 t3
      refine ⟨⟨f', r', u₂, w₂⟩, ⟨h1, h2, h3, h4.t, fun τ hτ => ?_, hd _ _ _ h6 (hD _ _ _ h8 h7)⟩, t2, fun p hp => by rw [t1]; exact hag p hp, fun τ hτ => ⟨es, t3 τ fun p hp1 hp2 => by rw [hτ p hp1 hp2, t1]⟩⟩
      dsimp only at hτ
      obtain ⟨n, a', v', hn, hq⟩ := hi.law τ fun p hp => by rw [hτ p (by omega), t1]; exact hag p hp
      cases n with
      | zero => exact (sgD_end hK hi hn hq).elim
      | succ n => exact ⟨n, a', v', own_go (t3 τ fun p _ hp2 => by rw [hτ p hp2, t1]) hn, hq⟩
    rcases hi.mode with hm | hm
    · by_cases hend : s.r = [] ∧ Ends s.f.todo
      · obtain ⟨hr, ht⟩ := hend
        rw [hr] at hn
        have e := ends_ret hi.tf hm ht ([] ++ [f0]) { s.u with tape := τ₁ }
        have h2 := own_go e hn
        cases n with
        | zero =>
          obtain ⟨h3, _⟩ := own_zero h2
          have := congrArg Frame.mode h3
          cases this
        | succ n =>
          rcases tback (c := f0) (r := []) (f := { s.f with mode := .returning }) (F := F) ⟨hi.tf.fn, hi.tf.kind, hi.tf.defers, hi.tf.round, hi.tf.todo⟩ rfl hs with ⟨o, v'', es', he⟩ | ⟨y, v'', es', w', he, _⟩
          · exact (own_end he h2).elim
          · exact absurd (own_go he h2) (f0_end n _ _ v')
      · rcases tstepD (cs := s.r ++ [f0]) hF hi.tf hm hs with ⟨o, v'', es', he⟩ | ⟨ch, v'', es', he⟩ | ⟨g', v'', es', w', he, htp, hs', hsz, hev, hway⟩
        · exact (own_end he hn).elim
        · exact absurd (own_go he hn) (dead_end (F := F) n _ s.r ch _ _ [f0] v' (stack_mem hi.stack) rfl ⟨hi.tf.fn, hi.tf.defers⟩ rfl)
        · cases hway with
          | @here f' hg hT' hm' hB =>
            subst hg
            refine mk f' s.r v'' w' es' hT' hm' hi.stack hs' htp ?_ hsz hev
            cases hr : s.r with
            | nil => exact hB K cs fun ht => absurd ⟨hr, ht⟩ hend
            | cons c r =>
              have := hB ⟨[], none, []⟩ (extSD K cs (c :: r)) (fun _ => rfl)
              rw [extD_none hi.tf.round hi.tf.defers, extD_none hT'.round hT'.defers] at this
              exact this
          | @call e hg hTe hme hne hB =>
            subst hg
            refine mk e (s.f :: s.r) v'' w' es' hTe (.inl hme) ⟨⟨hi.tf, hm, hne.1, finish_ok hi.tf hm hne⟩, hi.stack⟩ hs' htp ?_ hsz hev
            cases hr : s.r with
            | nil => exact hB K cs
            | cons c r =>
              have := hB ⟨[], none, []⟩ (extSD K cs (c :: r))
              rw [extD_none hi.tf.round hi.tf.defers] at this
              exact this
    · cases hr : s.r with
      | nil =>
        rw [hr] at hn
        rcases tback (c := f0) (r := []) (F := F) hi.tf hm hs with ⟨o, v'', es', he⟩ | ⟨y, v'', es', w', he, _⟩
        · exact (own_end he hn).elim
        · exact absurd (own_go he hn) (f0_end n _ _ v')
      | cons c r =>
        have hS := hi.stack
        rw [hr] at hn hS mk
        rcases tback (c := c) (r := r ++ [f0]) (F := F) hi.tf hm hs with ⟨o, v'', es', he⟩ | ⟨y, v'', es', w', he, htp, hs', hsz, hev, hB⟩
        · exact (own_end he hn).elim
        · obtain ⟨hTc, hmc, hfin⟩ := hS.1.2.2.2 y
          refine mk (c.finish y) r v'' w' es' hTc (.inl hmc) hS.2 hs' htp ?_ hsz hev
          cases r with
          | nil =>
            have := hB (extD K c) cs
            rw [finishD hS.1.1 hS.1.2.2.1 K] at this
            exact this
          | cons d r => exact hB c (extSD K cs (d :: r))

/-- ████ A piece of code, by its lone law on every tape. -/
theorem segD (hF : GoodF P F) (hD : Dok X D) {c : Code} (hc : okCode P F c = true) {Q : Exit → Act → World → Prop} {a : Act} {v : World} (h : ∀ τ d, c.wp P Q a { v with tape := τ, drawn := d }) (hQ : ∀ e a' v', Q e a' v' → e = .normal ∧ a'.defers = []) (ha : a.defers = [])
    {fn : FuncId} (hf : ∃ fun0, P.funcs[fn]? = some fun0) {w : World} (hs : SimT X Y w v) {K : Ext} {cs : List Frame} (hK : ∀ a' v' w', Q .normal a' v' → SimT X Y w' v' → GoesI P D Stop (G (extD K ((base fn).at a' [])) cs) w') : GoesI P D Stop (G (extD K ((base fn).at a [.code c])) cs) w := by
  refine Classical.byContradiction fun hno => ?_
  have start : SgD P F X Y D Stop K cs fn Q ⟨(base fn).at a [.code c], [], { v with drawn := 0 }, w⟩ := by
    refine ⟨⟨hf, rfl, ha, rfl, [], fun x hx => by simp [Frame.at] at hx; subst hx; exact hc, InvS.nil⟩, .inl rfl, trivial, hs.to v.tape 0, fun τ _ => ?_, hno⟩
    obtain ⟨e, a', v', hq, harr⟩ := h τ 0 (base fn) [] [f0]
    obtain ⟨rfl, _⟩ := hQ _ _ _ hq
    obtain ⟨n, hn⟩ : Steps P (lone ((base fn).at a [.code c]) [f0] { v with tape := τ, drawn := 0 }) (lone ((base fn).at a' []) [f0] v') := harr
    exact ⟨n, a', v', hn, hq⟩
  let nx : {s // SgD P F X Y D Stop K cs fn Q s} → {s // SgD P F X Y D Stop K cs fn Q s} := fun s => ⟨(sgD_next hF hD hK s.2).choose, (sgD_next hF hD hK s.2).choose_spec.1⟩
  have nxs : ∀ s, SgNext P s.1 (nx s).1 := fun s => (sgD_next hF hD hK s.2).choose_spec.2
  let q : Nat → {s // SgD P F X Y D Stop K cs fn Q s} := fun n => Nat.rec ⟨_, start⟩ (fun _ s => nx s) n
  have qs : ∀ n, SgNext P (q n).1 (q (n + 1)).1 := fun n => nxs (q n)
  have mono : ∀ n m, n ≤ m → (q n).1.u.drawn ≤ (q m).1.u.drawn ∧ ∀ p, p < (q n).1.u.drawn → (q m).1.u.tape p = (q n).1.u.tape p := by
    intro n m hnm
    induction m with
    | zero =>
      obtain rfl : n = 0 := by omega
      exact ⟨Nat.le_refl _, fun _ _ => rfl⟩
    | succ m ih =>
      rcases Nat.lt_or_ge n (m + 1) with hlt | hge
      · obtain ⟨h1, h2⟩ := ih (by omega)
        have h3 := qs m
        exact ⟨Nat.le_trans h1 h3.1, fun p hp => (h3.2.1 p (by omega)).trans (h2 p hp)⟩
      · obtain rfl : n = m + 1 := by omega
        exact ⟨Nat.le_refl _, fun _ _ => rfl⟩
  have dec : ∀ p, Decidable (∃ n, p < (q n).1.u.drawn) := fun p => Classical.propDecidable _
  let τ : Nat → Question → Nat := fun p => if h : ∃ n, p < (q n).1.u.drawn then (q h.choose).1.u.tape p else fun _ => 0
  have agree : ∀ n p, p < (q n).1.u.drawn → τ p = (q n).1.u.tape p := fun n p hp => by
    have hex : ∃ n, p < (q n).1.u.drawn := ⟨n, hp⟩
    show (if h : ∃ n, p < (q n).1.u.drawn then (q h.choose).1.u.tape p else fun _ => 0) = _
    rw [dif_pos hex]
    have hc := hex.choose_spec
    rcases Nat.le_total n hex.choose with hle | hle
    · exact (mono n _ hle).2 p hp
    · exact ((mono _ n hle).2 p hc).symm
  have never : ∀ (m i : Nat) (a' : Act) (v' : World), ownN P m (q i).1.f ((q i).1.r ++ [f0]) { (q i).1.u with tape := τ } ((base fn).at a' []) [f0] v' → Q .normal a' v' → False := by
    intro m
    induction m with
    | zero => exact fun i a' v' h hq => sgD_end hK (q i).2 h hq
    | succ m ih =>
      intro i a' v' h hq
      obtain ⟨es, he⟩ := (qs i).2.2 τ fun p _ hp => agree (i + 1) p hp
      exact ih (i + 1) a' v' (own_go he h) hq
  obtain ⟨n, a', v', hn, hq⟩ := (q 0).2.law τ fun p hp => agree 0 p hp
  exact never n 0 a' v' hn hq

/-- A frame. -/
def Dn (ro : Option Nat) (ds : List Deferred) (f : FuncId) (T : Array Value) (k : List Item) : Frame := { fn := f, tmps := T, todo := k, defers := ds, mode := .run, kind := .normal, roundOf := ro }
theorem Dn_base (f : FuncId) (T : Array Value) (k : List Item) : Dn none [] f T k = (base f).at ⟨T, []⟩ k := rfl
/-- Behind the join, in such a frame. -/
def ReaR (P : Program) (X : Nat → Prop) (Y : Nat → Option Obj) (D : Nat → World → Array Event → Prop) (Stop : Goroutine → World → Prop) (ro : Option Nat) (ds : List Deferred) (f : FuncId) (cs : List Frame) (k : List Item) (T : Array Value) (v : World) : Prop :=
  ∀ w, SimT X Y w v → GoesI P D Stop (G (Dn ro ds f T k) cs) w
theorem reaR_code (hF : GoodF P F) (hD : Dok X D) {ro : Option Nat} {ds : List Deferred} {f : FuncId} {cs : List Frame} {k : List Item} {c : Code} (hc : okCode P F c = true) {T : Array Value} {v : World} (hf : ∃ fn, P.funcs[f]? = some fn)
    (h : ∀ τ d, c.wp P (fun e a' v' => e = .normal ∧ a'.defers = [] ∧ ReaR P X Y D Stop ro ds f cs k a'.tmps v') ⟨T, []⟩ { v with tape := τ, drawn := d }) : ReaR P X Y D Stop ro ds f cs (.code c :: k) T v :=
  fun _ hs => segD (K := ⟨k, ro, ds⟩) (fn := f) (a := ⟨T, []⟩) hF hD hc h (fun _ _ _ x => ⟨x.1, x.2.1⟩) rfl hf hs fun _ _ w' hq hs' => hq.2.2 w' hs'
end
end Go.Lf

/-
  Loops over a function, step by step, beside goroutines that only leave.
-/
namespace Go.Lf
open Go.Conc

section
variable {P : Program} {X : Nat → Prop} {Y : Nat → Option Obj} {D : Nat → World → Array Event → Prop} {Stop : Goroutine → World → Prop} {f : FuncId} {k : List Item} {cs : List Frame} {v w : World}

theorem Sim.put (h : Sim X Y w v) {r : Nat} {o : Obj} (hx : ¬ X r) (hy : Y r = none) (ho : NoView o) : Sim X Y (w.putObj r o) (v.putObj r o) := by
  refine ⟨by simp [h.size], fun b hb => by simpa using h.bound b hb, fun b hb hyb => ?_, fun b o2 hyb => ?_, fun b hb => ?_, fun b o2 hb => ?_, h.os, h.out, h.str, fun b cs t fr hb hc => ?_⟩
  · by_cases e : b = r
    · subst e
      by_cases hl : b < v.heap.size
      · rw [World.putObj_heap_same (by rw [h.size]; exact hl), World.putObj_heap_same hl]
      · rw [Array.getElem?_eq_none (by simp [h.size]; omega), Array.getElem?_eq_none (by simp; omega)]
    · rw [World.putObj_heap_other e, World.putObj_heap_other e]
      exact h.same b hb hyb
  · have e : b ≠ r := fun e => by rw [e, hy] at hyb; cases hyb
    rw [World.putObj_heap_other e, World.putObj_heap_other e]
    exact h.gho b o2 hyb
  · have e : b ≠ r := fun e => hx (e ▸ hb)
    rw [World.putObj_heap_other e, World.putObj_heap_other e]
    exact h.doc b hb
  · by_cases e : b = r
    · subst e
      have hl : b < v.heap.size := by
        have := (Array.getElem?_eq_some_iff.1 hb).1
        simpa using this
      rw [World.putObj_heap_same hl] at hb
      cases hb
      exact ho
    · rw [World.putObj_heap_other e] at hb
      exact h.nv b o2 hb
  · have e : b ≠ r := fun e => hx (e ▸ hb)
    rw [World.putObj_heap_other e] at hc
    exact h.unf b cs t fr hb hc
theorem SimT.put (h : SimT X Y w v) {r : Nat} {o : Obj} (hx : ¬ X r) (hy : Y r = none) (ho : NoView o) : SimT X Y (w.putObj r o) (v.putObj r o) := by
  obtain ⟨τ, d, h⟩ := h
  exact ⟨τ, d, h.put hx hy ho⟩
theorem SimT.alloc (h : SimT X Y w v) {o : Obj} (ho : NoView o) : SimT X Y (w.alloc o) (v.alloc o) := by
  obtain ⟨τ, d, h⟩ := h
  exact ⟨τ, d, h.push ho⟩
theorem SimT.size (h : SimT X Y w v) : w.heap.size = v.heap.size := by
  obtain ⟨τ, d, h⟩ := h
  exact h.size
theorem SimT.far (h : SimT X Y w v) {r : Nat} (hr : v.heap.size ≤ r) : ¬ X r ∧ Y r = none := by
  obtain ⟨τ, d, h⟩ := h
  refine ⟨fun hx => ?_, ?_⟩
  · have := h.bound r (.inl hx)
    have : r < v.heap.size := this
    omega
  · cases hy : Y r with
    | none => rfl
    | some o =>
      have := h.bound r (.inr (by rw [hy]; rfl))
      have : r < v.heap.size := this
      omega
theorem SimT.obj (h : SimT X Y w v) {r : Nat} {o : Obj} (hx : ¬ X r) (hy : Y r = none) (ho : v.heap[r]? = some o) : w.heap[r]? = some o := by
  obtain ⟨τ, d, h⟩ := h
  exact (h.same r hx hy).trans ho

def Ours (X : Nat → Prop) (Y : Nat → Option Obj) (r : Nat) : Prop := ¬ X r ∧ Y r = none

theorem evs_obj (hx : ¬ X f) (w : World) (hl : f < w.heap.size) : EvP X w ⟨.obj f, false, false⟩ ∧ EvP X w ⟨.obj f, true, false⟩ := ⟨.inr (.inl ⟨_, _, _, rfl, hl, hx⟩), .inr (.inl ⟨_, _, _, rfl, hl, hx⟩)⟩
theorem evsP_one {w : World} {e : Event} (h : EvP X w e) (fn : FuncId) : EvsP X w (seen P fn #[e]) := fun e' he' => by
  have := mem_seen he'
  simp at this
  subst this
  exact h
theorem evsP_two {w : World} {e1 e2 : Event} (h1 : EvP X w e1) (h2 : EvP X w e2) (fn : FuncId) : EvsP X w (seen P fn #[e1, e2]) := fun e' he' => by
  have := mem_seen he'
  simp at this
  rcases this with rfl | rfl
  · exact h1
  · exact h2

theorem runT_enterLoop (fn : FuncId) (T : Array Value) (ps : Array Tmp) (assign body : Code) : (Instr.enterLoop fn T ps assign body none).runT P w #[] =
    (.ok (w.heap.size + 1, [{ target := .collected w.heap.size, args := #[] }]) ((w.alloc (.deferred (some []))).alloc (.loop { state := .ready, pending := none, fn, tmps := T, params := ps, assign, body, defers := w.heap.size })), #[]) := by
  rw [Sem.runT_eq, run_enterLoop_outer]
  rfl
theorem runT_yield {l : Nat} {r : Loop} {args : Array Value} (h : w.heap[l]? = some (.loop r)) (hs : args.size = r.params.size) : (Instr.yield l args).runT P w #[] =
    (.ok (.round l r.fn ((r.params.zip args).foldl (fun tmps (t, a) => tmps.setIfInBounds t a) r.tmps) r.assign r.body) w, #[⟨.obj l, false, false⟩]) := by
  simp only [Instr.yield, Instr.getLoop, getObj, bind, Sem.bind, Sem.runT, h, pure, hs, ne_eq, not_true_eq_false, if_false]
  rfl
theorem runT_beginRound {l : Nat} {r : Loop} (h : w.heap[l]? = some (.loop r)) (hr : r.state = .ready) : (Instr.beginRound l).runT P w #[] = (.ok () (w.putObj l (.loop { r with state := .busy })), #[⟨.obj l, false, false⟩, ⟨.obj l, true, false⟩]) := by
  simp only [Instr.beginRound, Instr.getLoop, getObj, setObj, bind, Sem.bind, Sem.runT, h, pure, hr]
  rfl
theorem runT_endRound {l : Nat} {r : Loop} (h : w.heap[l]? = some (.loop r)) : (Instr.endRound l none).runT P w #[] = (.ok (.bool true) (w.putObj l (.loop { r with state := .ready, pending := none })), #[⟨.obj l, false, false⟩, ⟨.obj l, true, false⟩]) := by
  simp only [Instr.endRound, Instr.getLoop, getObj, setObj, bind, Sem.bind, Sem.runT, h, pure]
  rfl
theorem runT_endLoop {l : Nat} {r : Loop} (h : w.heap[l]? = some (.loop r)) (hb : (r.state == .busy) = false) : (Instr.endLoop l).runT P w #[] = (.ok r.pending (w.putObj l (.loop { r with state := .exhausted })), #[⟨.obj l, false, false⟩, ⟨.obj l, true, false⟩]) := by
  simp only [Instr.endLoop, Instr.getLoop, getObj, setObj, bind, Sem.bind, Sem.runT, h, pure, hb, Bool.false_eq_true, if_false]
  rfl
theorem runT_takeDeferred {b : Nat} {ds : List Deferred} (h : w.heap[b]? = some (.deferred (some ds))) : (Instr.takeDeferred b).runT P w #[] = (.ok ds (w.putObj b (.deferred none)), #[⟨.obj b, false, false⟩, ⟨.obj b, true, false⟩]) := by
  simp only [Instr.takeDeferred, getObj, setObj, bind, Sem.bind, Sem.runT, h, pure]
  rfl

theorem runT_call {gf : FuncId} {fn : Func} {c : Code} (hf : P.funcs[gf]? = some fn) (hname : (fn.name == "runtime.NumGoroutine") = false) (hb : fn.body = some c) (as : Array Value) (u : World) : (callFunc gf as).runT P u #[] = (.ok (.enter gf as) u, #[]) := by
  have hne : fn.body.isNone = false := by rw [hb]; rfl
  show ((fun p : Program => match p.funcs[gf]? with
    | none => stuck "call: no such function"
    | some fn => if fn.name == "runtime.NumGoroutine" then pure .numGoroutine
      else if fn.body.isNone then (do
        mark (.extern gf)
        if let some e := Extern.findNext fn then return ← e as
        match Extern.find fn with
        | some e => pure (.value (← e as))
        | none =>
          if fn.name.endsWith ".init" && !fn.name.startsWith "(" && !fn.name.startsWith "gosem." then pure (.value (.tuple #[]))
          else unsupported (.extern fn.name))
      else pure (.enter gf as) : Program → Sem Next) P).runT P u #[] = _
  dsimp only
  rw [hf]
  dsimp only
  rw [hname, hne]
  rfl

/-- A loop over a function begins. -/
theorem reaR_range (hD : Dok X D) {g : Operand} {ps : Array Tmp} {assign body : Code} {T : Array Value} {gf : FuncId} {lb : Array Value} {fn : Func} {c : Code} (hg : ∀ fr : Frame, fr.tmps = T → fr.eval g = .func (.func gf) #[] lb) (hf : P.funcs[gf]? = some fn) (hname : (fn.name == "runtime.NumGoroutine") = false) (hb : fn.body = some c)
    (h : Ours X Y v.heap.size → Ours X Y (v.heap.size + 1) → ReaR P X Y D Stop none [] gf (Dn none [{ target := .collected v.heap.size, args := #[] }] f T (.inRangeFunc (v.heap.size + 1) :: k) :: cs) [.code c] (#[.func (.yield (v.heap.size + 1)) #[] #[]] ++ lb ++ Array.replicate (fn.ntmps - (1 + lb.size)) undef)
      ((v.alloc (.deferred (some []))).alloc (.loop { state := .ready, pending := none, fn := f, tmps := T, params := ps, assign, body, defers := v.heap.size }))) :
    ReaR P X Y D Stop none [] f cs (.code (.rangeFunc g ps assign body) :: k) T v := by
  intro w hs
  have h1 := hs.far (Nat.le_refl _)
  have h2 := hs.far (r := v.heap.size + 1) (by omega)
  have hsz := hs.size
  refine .next rfl fun d => ?_
  have hs' := ((hs.at d).alloc (o := .deferred (some [])) trivial).alloc (o := .loop { state := .ready, pending := none, fn := f, tmps := T, params := ps, assign, body, defers := v.heap.size }) trivial
  refine ⟨_, _, #[], ?_, hD.nil (by simp [World.at]; omega), h h1 h2 _ hs'⟩
  have e1 : (w.at d).heap.size = v.heap.size := hsz
  have key : ∀ fr : Frame, fr.tmps = T → ∀ u l, (do let d ← resolve fr.eval (rangeCall g l) 0; invoke d.target d.args : Sem Next).runT P u #[] = (.ok (.enter gf (#[.func (.yield l) #[] #[]] ++ lb)) u, #[]) := fun fr hfr u l => by
    show (Deferred.ofValue (fr.eval g) (Array.map fr.eval #[.const (.func (.yield l) #[] #[])]) >>= fun d => invoke d.target d.args : Sem Next).runT P u #[] = _
    rw [hg fr hfr, show Array.map fr.eval #[.const (.func (.yield l) #[] #[])] = #[.func (.yield l) #[] #[]] by simp [Frame.eval]]
    show (callFunc gf (#[] ++ #[.func (.yield l) #[] #[]] ++ lb)).runT P u #[] = _
    rw [runT_call hf hname hb]
    simp
  simp only [G, Dn, stepG, stepG.exec, runT_enterLoop, stepG.apply, if_true]
  rw [key _ rfl]
  simp only [e1, GStep.after, Frame.enter, hf, hb, Option.map_some, Option.getD_some, Option.bind_some, Array.size_append]
  rfl

/-- A round begins: yield is called. -/
theorem reaR_yield (hD : Dok X D) {ops : Array Oper} {i : Nat} {rest : List Nat} {o : Oper} {T : Array Value} {l t : Nat} {r : Loop} {args : Array Operand} {ats : Array TypeId} {vs : Array Value} (ho : ops[i]? = some o) (hw : Region.wanted o (yielded ops T) = true)
    (hop : o.op = .call { callee := .value (.tmp t), args, argTypes := ats }) (ht : T.getD t undef = .func (.yield l) #[] #[]) (hvs : args.map (⟨T, []⟩ : Act).eval = vs) (hl : v.heap[l]? = some (.loop r)) (hO : Ours X Y l) (hps : vs.size = r.params.size)
    (h : ReaR P X Y D Stop (some l) [] r.fn (Dn none [] f T (.inRegion ops (i :: rest) :: k) :: cs) [.code r.assign, .beginRound, .code r.body] ((r.params.zip vs).foldl (fun tmps (t, a) => tmps.setIfInBounds t a) r.tmps) v) :
    ReaR P X Y D Stop none [] f cs (.inRegion ops (i :: rest) :: k) T v := by
  intro w hs
  refine .next rfl fun d => ?_
  have hl' : (w.at d).heap[l]? = some (.loop r) := (hs.at d).obj hO.1 hO.2 hl
  have hlt : l < (w.at d).heap.size := (Array.getElem?_eq_some_iff.1 hl').1
  refine ⟨_, _, seen P f #[⟨.obj l, false, false⟩], ?_, hD.to (w := w.at d) rfl (Nat.le_refl _) (evsP_one (evs_obj hO.1 _ hlt).1 _), h _ (hs.at d)⟩
  have e1 : stepG P true (G (Dn none [] f T (.inRegion ops (i :: rest) :: k)) cs) (w.at d) = stepG.apply P true (Dn none [] f T (.inRegion ops (i :: rest) :: k)) cs none (execOp (Dn none [] f T (.inRegion ops (i :: rest) :: k)).eval o) (w.at d) := by
    simp only [G, Dn, stepG, stepG.exec, ho, Option.map_some, Option.getD_some]
    rw [if_pos hw]
    exact oper_plain (fun c h => by rw [hop] at h; cases h) (by simp only [Frame.oper?, ho])
  have e2 : (execOp (Dn none [] f T (.inRegion ops (i :: rest) :: k)).eval o).runT P (w.at d) #[] = (.ok (.round l r.fn ((r.params.zip vs).foldl (fun tmps (t, a) => tmps.setIfInBounds t a) r.tmps) r.assign r.body) (w.at d), #[⟨.obj l, false, false⟩]) := by
    rw [← runT_yield (P := P) (args := vs) hl' hps]
    have hev : (Dn none [] f T (.inRegion ops (i :: rest) :: k)).eval = (⟨T, []⟩ : Act).eval := by
      funext x
      cases x <;> rfl
    rw [hev]
    obtain ⟨dst, op, ty, pos, after, guard⟩ := o
    dsimp only at hop
    subst hop
    show (Deferred.ofValue (T.getD t undef) (args.map (⟨T, []⟩ : Act).eval) >>= fun d => invoke d.target d.args : Sem Next).runT P (w.at d) #[] = _
    rw [ht, hvs]
    show (Instr.yield l (#[] ++ vs)).runT P (w.at d) #[] = _
    rw [Array.empty_append]
  rw [e1]
  simp only [stepG.apply, if_true, e2, GStep.after]
  rfl

theorem reaR_begin (hD : Dok X D) {T : Array Value} {ds : List Deferred} {l : Nat} {r : Loop} (hl : v.heap[l]? = some (.loop r)) (hr : r.state = .ready) (hO : Ours X Y l) (h : ReaR P X Y D Stop (some l) ds f cs k T (v.putObj l (.loop { r with state := .busy }))) :
    ReaR P X Y D Stop (some l) ds f cs (.beginRound :: k) T v := by
  intro w hs
  refine .next rfl fun d => ?_
  have hl' : (w.at d).heap[l]? = some (.loop r) := (hs.at d).obj hO.1 hO.2 hl
  have hlt : l < (w.at d).heap.size := (Array.getElem?_eq_some_iff.1 hl').1
  refine ⟨_, _, seen P f #[⟨.obj l, false, false⟩, ⟨.obj l, true, false⟩], ?_, hD.to (w := w.at d) (by simp [World.putObj]) (Nat.le_refl _) (evsP_two (evs_obj hO.1 _ hlt).1 (evs_obj hO.1 _ hlt).2 _), h _ ((hs.at d).put hO.1 hO.2 trivial)⟩
  have e2 : (do Option.elim (some l) (stuck "beginRound: no round") Instr.beginRound; pure .skip : Sem Next).runT P (w.at d) #[] = (.ok .skip ((w.at d).putObj l (.loop { r with state := .busy })), #[⟨.obj l, false, false⟩, ⟨.obj l, true, false⟩]) := by
    simp only [Option.elim, Instr.beginRound, Instr.getLoop, getObj, setObj, bind, Sem.bind, Sem.runT, hl', pure, hr]
    rfl
  simp only [G, Dn, stepG, stepG.exec, stepG.apply, if_true]
  rw [e2]
  rfl

theorem reaR_end (hD : Dok X D) {T : Array Value} {c : Frame} {l : Nat} {r : Loop} (hl : v.heap[l]? = some (.loop r)) (hO : Ours X Y l) (h : ∀ w, SimT X Y w (v.putObj l (.loop { r with state := .ready, pending := none })) → GoesI P D Stop (G (c.finish (.bool true)) cs) w) :
    ReaR P X Y D Stop (some l) [] f (c :: cs) [] T v := by
  intro w hs
  refine .next rfl fun d => ?_
  have hl' : (w.at d).heap[l]? = some (.loop r) := (hs.at d).obj hO.1 hO.2 hl
  have hlt : l < (w.at d).heap.size := (Array.getElem?_eq_some_iff.1 hl').1
  refine ⟨_, _, seen P f #[⟨.obj l, false, false⟩, ⟨.obj l, true, false⟩], ?_, hD.to (w := w.at d) (by simp [World.putObj]) (Nat.le_refl _) (evsP_two (evs_obj hO.1 _ hlt).1 (evs_obj hO.1 _ hlt).2 _), h _ ((hs.at d).put hO.1 hO.2 trivial)⟩
  simp only [G, Dn, stepG, stepG.exec, runT_endRound hl', doReturn]
  rfl

theorem reaR_endRange (hD : Dok X D) {T : Array Value} {ds : List Deferred} {ro : Option Nat} {l : Nat} {r : Loop} (hl : v.heap[l]? = some (.loop r)) (hr : (r.state == .busy) = false) (hp : r.pending = none) (hO : Ours X Y l) (h : ReaR P X Y D Stop ro ds f cs k T (v.putObj l (.loop { r with state := .exhausted }))) :
    ReaR P X Y D Stop ro ds f cs (.endRangeFunc l :: k) T v := by
  intro w hs
  refine .next rfl fun d => ?_
  have hl' : (w.at d).heap[l]? = some (.loop r) := (hs.at d).obj hO.1 hO.2 hl
  have hlt : l < (w.at d).heap.size := (Array.getElem?_eq_some_iff.1 hl').1
  refine ⟨_, _, seen P f #[⟨.obj l, false, false⟩, ⟨.obj l, true, false⟩], ?_, hD.to (w := w.at d) (by simp [World.putObj]) (Nat.le_refl _) (evsP_two (evs_obj hO.1 _ hlt).1 (evs_obj hO.1 _ hlt).2 _), h _ ((hs.at d).put hO.1 hO.2 trivial)⟩
  simp only [G, Dn, stepG, stepG.exec, runT_endLoop hl' hr, hp]
  rfl

/-- The last step of a return. -/
theorem goesI_back (hD : Dok X D) {fn : Func} (hf : P.funcs[f]? = some fn) {T : Array Value} {c : Frame} {y : Value} (hres : ∀ τ d, (results fn T).run P { v with tape := τ, drawn := d } = .ok y { v with tape := τ, drawn := d })
    (h : ∀ w, SimT X Y w v → GoesI P D Stop (G (c.finish y) cs) w) (w : World) (hs : SimT X Y w v) : GoesI P D Stop (G { Dn none [] f T k with mode := .returning } (c :: cs)) w := by
  refine .next rfl fun d' => ?_
  have hs' : Sim X Y (w.at d') { v with tape := fun p => w.tape (d' + p), drawn := 0 } := hs.re d' 0 _ fun i q => by simp
  have hr := hres (fun p => w.tape (d' + p)) 0
  obtain ⟨w', h1, h2, h3, h4⟩ := sim_run (results fn T) (w.at d') _ #[] y _ ((results fn T).events P { v with tape := fun p => w.tape (d' + p), drawn := 0 } #[]) (plain_results fn T) hs' (by rw [Sem.runT_eq, hr])
  refine ⟨G (c.finish y) cs, w', seen P f ((results fn T).events P { v with tape := fun p => w.tape (d' + p), drawn := 0 } #[]), ?_, hD _ w' _ (Nat.le_of_eq (hs'.size.trans h2.size.symm)) (fun e he => (h4 e (mem_seen he)).resolve_left (by simp)), h w' ⟨_, _, h2⟩⟩
  have eA : ∀ c2 r2 u, stepG P true (G { Dn none [] f T k with mode := .returning } (c2 :: r2)) u =
      GStep.after (seen P f ((results fn T).runT P u #[]).2) (match ((results fn T).runT P u #[]).1 with
        | .ok v w => doReturn P true { Dn none [] f T k with mode := .returning } (c2 :: r2) none v w
        | .halt (.stuck s) w => .ended (.stuck s (Frame.pos P { Dn none [] f T k with mode := .returning })) w
        | .halt _ w => .ended (.stuck "return: the result variables cannot be read" (Frame.pos P { Dn none [] f T k with mode := .returning })) w) := fun c2 r2 u => by
    simp only [G, stepG, unwind, Dn, hf]
    rfl
  show stepG P true _ (w.at d') = _
  rw [eA, h1]
  simp only [doReturn, GStep.after]
  rfl
/-- Off the end of a function. -/
theorem reaR_fall (hD : Dok X D) {fn : Func} (hf : P.funcs[f]? = some fn) {T : Array Value} {c : Frame} {y : Value} (hres : ∀ τ d, (results fn T).run P { v with tape := τ, drawn := d } = .ok y { v with tape := τ, drawn := d })
    (h : ∀ w, SimT X Y w v → GoesI P D Stop (G (c.finish y) cs) w) : ReaR P X Y D Stop none [] f (c :: cs) [] T v := by
  intro w hs
  exact .next rfl fun d => ⟨G { Dn none [] f T [] with mode := .returning } (c :: cs), w.at d, #[], rfl, hD.nil (Nat.le_refl _), goesI_back hD hf hres h _ (hs.at d)⟩
/-- A return behind a loop over a function. -/
theorem reaR_ret (hD : Dok X D) {fn : Func} (hf : P.funcs[f]? = some fn) {T : Array Value} {c : Frame} {b : Nat} {y : Value} (hb : v.heap[b]? = some (.deferred (some []))) (hO : Ours X Y b) (hres : ∀ τ d, (results fn T).run P { v.putObj b (.deferred none) with tape := τ, drawn := d } = .ok y { v.putObj b (.deferred none) with tape := τ, drawn := d })
    (h : ∀ w, SimT X Y w (v.putObj b (.deferred none)) → GoesI P D Stop (G (c.finish y) cs) w) : ReaR P X Y D Stop none [{ target := .collected b, args := #[] }] f (c :: cs) [.code .ret] T v := by
  intro w hs
  refine .next rfl fun d => ⟨G { Dn none [{ target := .collected b, args := #[] }] f T [.code .ret] with mode := .returning } (c :: cs), w.at d, #[], rfl, hD.nil (Nat.le_refl _), ?_⟩
  refine .next rfl fun d' => ?_
  have hb' : (w.at d').heap[b]? = some (.deferred (some [])) := (hs.at d').obj hO.1 hO.2 hb
  have hlt : b < (w.at d').heap.size := (Array.getElem?_eq_some_iff.1 hb').1
  refine ⟨G { Dn none [] f T [.code .ret] with mode := .returning } (c :: cs), (w.at d').putObj b (.deferred none), seen P f #[⟨.obj b, false, false⟩, ⟨.obj b, true, false⟩], ?_, hD.to (w := w.at d') (by simp [World.putObj]) (Nat.le_refl _) (evsP_two (evs_obj hO.1 _ hlt).1 (evs_obj hO.1 _ hlt).2 _), goesI_back hD hf hres h _ ((hs.at d').put hO.1 hO.2 trivial)⟩
  show stepG P true _ (w.at d') = _
  simp only [G, Dn, stepG, unwind, runT_takeDeferred hb']
  rfl
end
end Go.Lf

/-
  Ahead of the fork: a call by its contract, and a region that draws its order.
-/
namespace Go.Lf
open Go.Conc

section
variable {P : Program} {F : FuncId → Bool} {X : Nat → Prop} {Y : Nat → Option Obj} {Φ : Goroutine → World → Prop} {f : FuncId} {k : List Item} {cs : List Frame} {a : Act} {v : World} {ops : Array Oper} {i : Nat} {rest : List Nat} {o : Oper}

theorem dead_end2 : ∀ (n : Nat) (f : Frame) (r : List Frame) (ch : List PanicEntry) (v : World) (f' : Frame) (r' : List Frame) (v' : World), (∀ c ∈ r, TFr P F c ∧ c.mode = .run) → f.mode = .panicking ch → ((∃ fn, P.funcs[f.fn]? = some fn) ∧ f.defers = []) → (∀ ch, f'.mode ≠ .panicking ch) →
    ¬ ownN P n f (r ++ [f0]) v f' r' v'
  | 0, f, r, ch, v, f', r', v', _, hm, _, hm', h => by
    obtain ⟨rfl, _⟩ := own_zero h
    exact hm' _ hm
  | n + 1, f, r, ch, v, f', r', v', hr, hm, ⟨⟨fn, hfn⟩, hd⟩, hm', h => by
    have hcat : f.catches P = false := by unfold Frame.catches; rw [hfn]
    cases r with
    | nil =>
      have e : stepG P true (G f ([] ++ [f0])) v = .go (G (f0.raise ch) []) v #[] := by
        simp only [List.nil_append, G, stepG, hm, unwind, hd, hcat, Bool.false_eq_true, if_false]
      have h2 := own_go e h
      cases n with
      | zero =>
        obtain ⟨h3, _⟩ := own_zero h2
        exact hm' ch (by rw [← h3]; rfl)
      | succ n =>
        obtain ⟨o, v1, es, he⟩ := f0_dead (P := P) ch v
        exact own_end (show stepG P true (G (f0.raise ch) []) v = _ from he) h2
    | cons c r =>
      have e : stepG P true (G f (c :: r ++ [f0])) v = .go (G (c.raise ch) (r ++ [f0])) v #[] := by
        simp only [List.cons_append, G, stepG, hm, unwind, hd, hcat, Bool.false_eq_true, if_false]
      have h2 := own_go e h
      obtain ⟨hc, hcm⟩ := hr c (by simp)
      have er : c.raise ch = { c with mode := .panicking ch } := by simp [Frame.raise, hcm]
      rw [er] at h2
      exact dead_end2 n { c with mode := .panicking ch } r ch v f' r' v' (fun x hx => hr x (by simp [hx])) rfl ⟨hc.fn, hc.defers⟩ hm' h2

theorem f0_end2 (n : Nat) (v : World) (fz : Frame) (v' : World) : ¬ ownN P n f0 [] v fz [f0] v' := f0_end n v fz v'

theorem extS_nil (cs : List Frame) : ∀ r : List Frame, extS [] cs r = r ++ cs
  | [] => rfl
  | [b] => by simp [extS, extB_nil]
  | c :: d :: r => by simp only [extS, extS_nil cs (d :: r)]; rfl
/-- A callee's run up to its return is carried over. -/
theorem carryL (hF : GoodF P F) {fz : Frame} {v' : World} (hzm : fz.mode = .returning) (cs : List Frame) : ∀ (n : Nat) (f : Frame) (r : List Frame) (v w : World), TFr P F f → (f.mode = .run ∨ f.mode = .returning) → Stack P F r → Sim X Y w v →
    ownN P n f (r ++ [f0]) v fz [f0] v' → TFr P F fz ∧ ∃ w', Sim X Y w' v' ∧ Gets P X (G f (r ++ cs)) w (G fz cs) w'
  | 0, f, r, v, w, hT, hm, hS, hs, h => by
    obtain ⟨rfl, h2, rfl⟩ := own_zero h
    have : r = [] := by
      have := congrArg List.length h2
      simp at this
      exact this
    subst this
    exact ⟨hT, w, hs, .refl _ _⟩
  | n + 1, f, r, v, w, hT, hm, hS, hs, h => by
    rcases hm with hm | hm
    · rcases tstep (cs := r ++ [f0]) hF hT hm hs with ⟨o, v'', es', he⟩ | ⟨ch, v'', es', he⟩ | ⟨g', v'', es', w', he, _, hs', hsz, hev, hway⟩
      · exact (own_end he h).elim
      · exact absurd (own_go he h) (dead_end2 (F := F) n _ r ch _ fz [f0] v' (stack_mem hS) rfl ⟨hT.fn, hT.defers⟩ (fun ch e => by rw [hzm] at e; cases e))
      · cases hway with
        | @here f' hg hT' hm' hB =>
          subst hg
          have h2 := own_go he h
          obtain ⟨hz, w2, hs2, hG⟩ := carryL hF hzm cs n f' r v'' w' hT' hm' hS hs' h2
          have := hB [] (r ++ cs) (fun _ => rfl)
          rw [extB_nil, extB_nil] at this
          exact ⟨hz, w2, hs2, .step rfl this hev hsz hG⟩
        | @call e hg hTe hme hne hB =>
          subst hg
          have h2 := own_go he h
          obtain ⟨hz, w2, hs2, hG⟩ := carryL hF hzm cs n e (f :: r) v'' w' hTe (.inl hme) ⟨⟨hT, hm, hne.1, finish_ok hT hm hne⟩, hS⟩ hs' h2
          have := hB [] (r ++ cs)
          rw [extB_nil] at this
          exact ⟨hz, w2, hs2, .step rfl this hev hsz hG⟩
        | back _ _ hr _ => rw [hm] at hr; cases hr
    · cases r with
      | nil =>
        rcases tback (c := f0) (r := []) (F := F) hT hm hs with ⟨o, v'', es', he⟩ | ⟨y, v'', es', w', he, _⟩
        · exact (own_end he h).elim
        · exact absurd (own_go he h) (f0_end n _ fz v')
      | cons c r =>
        rcases tback (c := c) (r := r ++ [f0]) (F := F) hT hm hs with ⟨o, v'', es', he⟩ | ⟨y, v'', es', w', he, _, hs', hsz, hev, hB⟩
        · exact (own_end he h).elim
        · have h2 := own_go he h
          obtain ⟨hTc, hmc, hfin⟩ := hS.1.2.2.2 y
          obtain ⟨hz, w2, hs2, hG⟩ := carryL hF hzm cs n (c.finish y) r v'' w' hTc (.inl hmc) hS.2 hs' h2
          exact ⟨hz, w2, hs2, .step rfl (hB c (r ++ cs)) hev hsz hG⟩

theorem tfr_enter {g : FuncId} (hg : GoodBody P F g) {as : Array Value} (ha : as.size ≤ arity P g) : TFr P F (Frame.enter P g as .normal) := by
  obtain ⟨fn1, c1, S1, g1, g2, g3, g4, g5⟩ := hg
  refine ⟨⟨fn1, g1⟩, rfl, rfl, rfl, S1, fun x hx => ?_, InvS.enter ha g5⟩
  simp only [Frame.enter, g1, Option.bind_some, g3, Option.getD_some, List.mem_singleton] at hx
  subst hx
  exact g4

/-- A region draws its order. -/
theorem rea_draw {id : Nat} (h : ∀ t, Rea P Y Φ f cs (.inRegion ops (Region.schedule (P.follows .mixedOrders) ops t) :: k) a { v with drawn := v.drawn + 1 }) : Rea P Y Φ f cs (.code (.region id ops true) :: k) a v := by
  intro w hs
  have hc : ∀ u : World, (choose (.order f id)).run P u = .ok (u.tape u.drawn (.order f id)) { u with drawn := u.drawn + 1 } := fun u => rfl
  obtain ⟨g', w2, h5, h6⟩ := h (w.tape w.drawn (.order f id)) { w with drawn := w.drawn + 1 } hs.draw
  refine ⟨g', w2, h5, .step (es := #[]) (w' := { w with drawn := w.drawn + 1 }) rfl ?_ (fun e he => by simp at he) (Nat.le_refl w.heap.size) h6⟩
  simp only [G, base, Frame.at, stepG, stepG.exec, Bool.not_true, Bool.false_eq_true, if_false, hc]
theorem order_any (hm : P.follows .mixedOrders = true) (t : Nat) : Region.schedule (P.follows .mixedOrders) ops t = Region.linearise.go .any ops ops.size t (Array.replicate ops.size false) [] := by
  simp only [Region.schedule, hm, Bool.true_or, if_true, Region.linearise]
theorem go_succ (fuel t : Nat) (l : Array Bool) (hne : Region.ready .any ops l ≠ []) : ∃ i t', i ∈ Region.ready .any ops l ∧ Region.linearise.go .any ops (fuel + 1) t l [] = i :: Region.linearise.go .any ops fuel t' (l.setIfInBounds i true) [] := by
  simp only [Region.linearise.go]
  change ∃ i t', i ∈ Region.ready .any ops l ∧ (match (Region.ready .any ops l)[t % (Region.ready .any ops l).length]? with
      | some i => Region.linearise.go .any ops fuel (t / (Region.ready .any ops l).length) (l.setIfInBounds i true) [i]
      | none => [].reverse) = _
  cases hi : (Region.ready .any ops l)[t % (Region.ready .any ops l).length]? with
  | none =>
    refine absurd ?_ hne
    cases hr : Region.ready .any ops l with
    | nil => rfl
    | cons x xs =>
      rw [hr, List.getElem?_eq_none_iff] at hi
      have := Nat.mod_lt t (show 0 < (x :: xs).length by simp)
      omega
  | some i =>
    refine ⟨i, t / (Region.ready .any ops l).length, List.mem_of_getElem? hi, ?_⟩
    simp only []
    rw [linearise_go_acc, List.reverse_singleton, List.singleton_append]
theorem go_none (fuel t : Nat) (l : Array Bool) (hne : Region.ready .any ops l = []) : Region.linearise.go .any ops fuel t l [] = [] := by
  cases fuel with
  | zero => rfl
  | succ fuel =>
    simp only [Region.linearise.go]
    change (match (Region.ready .any ops l)[t % (Region.ready .any ops l).length]? with
      | some i => Region.linearise.go .any ops fuel (t / (Region.ready .any ops l).length) (l.setIfInBounds i true) [i]
      | none => [].reverse) = _
    rw [hne]
    rfl

variable {D : Nat → World → Array Event → Prop} {Stop : Goroutine → World → Prop} {ro : Option Nat} {ds : List Deferred} {T : Array Value}
theorem reaR_I : ReaR P X Y D Stop none [] f cs k T v ↔ ReaI P X Y D Stop f cs k ⟨T, []⟩ v := Iff.rfl
theorem reaR_step (hD : Dok X D) {k k' : List Item} (h : ∀ w, stepG P true (G (Dn ro ds f T k) cs) w = .go (G (Dn ro ds f T k') cs) w #[]) (hr : ReaR P X Y D Stop ro ds f cs k' T v) : ReaR P X Y D Stop ro ds f cs k T v :=
  fun w hs => .next rfl fun d => ⟨_, _, _, h (w.at d), hD.nil (Nat.le_refl _), hr _ (hs.at d)⟩
theorem reaR_split (hD : Dok X D) {c d : Code} (hr : ReaR P X Y D Stop ro ds f cs (.code c :: .code d :: k) T v) : ReaR P X Y D Stop ro ds f cs (.code (.seq c d) :: k) T v := reaR_step hD (fun _ => rfl) hr
theorem reaR_skip (hD : Dok X D) (hr : ReaR P X Y D Stop ro ds f cs k T v) : ReaR P X Y D Stop ro ds f cs (.code .skip :: k) T v := reaR_step hD (fun _ => rfl) hr
theorem reaR_block (hD : Dok X D) {id : Nat} {c : Code} (hr : ReaR P X Y D Stop ro ds f cs (.code c :: .inBlock id :: k) T v) : ReaR P X Y D Stop ro ds f cs (.code (.block id c) :: k) T v := reaR_step hD (fun _ => rfl) hr
theorem reaR_inBlock (hD : Dok X D) {id : Nat} (hr : ReaR P X Y D Stop ro ds f cs k T v) : ReaR P X Y D Stop ro ds f cs (.inBlock id :: k) T v := reaR_step hD (fun _ => rfl) hr
theorem reaR_loop (hD : Dok X D) {c : Code} (hr : ReaR P X Y D Stop ro ds f cs (.code c :: .inLoop c :: k) T v) : ReaR P X Y D Stop ro ds f cs (.code (.loop c) :: k) T v := reaR_step hD (fun _ => rfl) hr
theorem reaR_inLoop (hD : Dok X D) {c : Code} (hr : ReaR P X Y D Stop ro ds f cs (.code c :: .inLoop c :: k) T v) : ReaR P X Y D Stop ro ds f cs (.inLoop c :: k) T v := reaR_step hD (fun _ => rfl) hr
theorem reaR_exit (hD : Dok X D) {id : Nat} {k' : List Item} (he : exitTo id k = some k') (hr : ReaR P X Y D Stop ro ds f cs k' T v) : ReaR P X Y D Stop ro ds f cs (.code (.exit id) :: k) T v := reaR_step hD (fun _ => by simp only [G, Dn, stepG, stepG.exec, he, Option.elim]) hr
theorem reaR_cond (hD : Dok X D) {t : Nat} {b : Bool} {c d : Code} (he : T.getD t undef = .bool b) (hr : ReaR P X Y D Stop ro ds f cs (.code (if b then c else d) :: k) T v) : ReaR P X Y D Stop ro ds f cs (.code (.cond (.tmp t) c d) :: k) T v := reaR_step hD (fun _ => by simp only [G, Dn, stepG, stepG.exec, Frame.eval, he]) hr
theorem reaR_region (hD : Dok X D) {id : Nat} (hr : ReaR P X Y D Stop ro ds f cs (.inRegion ops (List.range ops.size) :: k) T v) : ReaR P X Y D Stop ro ds f cs (.code (.region id ops false) :: k) T v := reaR_step hD (fun _ => rfl) hr
theorem reaR_endReg (hD : Dok X D) (hr : ReaR P X Y D Stop ro ds f cs k T v) : ReaR P X Y D Stop ro ds f cs (.inRegion ops [] :: k) T v := reaR_step hD (fun _ => rfl) hr
/-- A piece of code that is run alone; the lone world may have another tape. -/
theorem reaR_go (hF : GoodF P F) (hD : Dok X D) {c : Code} (hc : okCode P F c = true) (hf : ∃ fn, P.funcs[f]? = some fn)
    (h : ∀ R : Act → World → Prop, (∀ T' v', ReaR P X Y D Stop ro ds f cs k T' v' → R ⟨T', []⟩ v') → ∀ τ d, c.wp P (fun e a' v' => e = .normal ∧ a'.defers = [] ∧ R a' v') ⟨T, []⟩ { v with tape := τ, drawn := d }) : ReaR P X Y D Stop ro ds f cs (.code c :: k) T v :=
  reaR_code hF hD hc hf fun τ d => h (fun a' v' => ReaR P X Y D Stop ro ds f cs k a'.tmps v') (fun _ _ x => x) τ d
/-- A call of a function by name. -/
theorem reaR_call (hD : Dok X D) {g : FuncId} {fn : Func} {c : Code} {args : Array Operand} {ats : Array TypeId} {vs : Array Value} {n : Nat} (ho : ops[i]? = some o) (hw : Region.wanted o (yielded ops T) = true) (hop : o.op = .call { callee := .value (.func g), args, argTypes := ats })
    (hf : P.funcs[g]? = some fn) (hname : (fn.name == "runtime.NumGoroutine") = false) (hb : fn.body = some c) (hvs : args.map (⟨T, []⟩ : Act).eval = vs) (hn : fn.ntmps - vs.size = n)
    (h : ReaR P X Y D Stop none [] g (Dn none [] f T (.inRegion ops (i :: rest) :: k) :: cs) [.code c] (vs ++ Array.replicate n undef) v) : ReaR P X Y D Stop none [] f cs (.inRegion ops (i :: rest) :: k) T v := by
  subst hvs hn
  intro w hs
  refine .next rfl fun d => ?_
  obtain ⟨g1, w1, es, hgo, rfl, rfl, rfl⟩ := goes_elim (goes_call (P := P) (main := true) (b := base f) (a := ⟨T, []⟩) (k := k) (cs := cs) (w := w.at d) (rest := rest) (K := fun g1 w1 es => g1 = G ((base g).at { tmps := args.map (⟨T, []⟩ : Act).eval ++ Array.replicate (fn.ntmps - (args.map (⟨T, []⟩ : Act).eval).size) undef, defers := [] } [.code c]) ((base f).at ⟨T, []⟩ (.inRegion ops (i :: rest) :: k) :: cs) ∧ w1 = w.at d ∧ es = #[]) ho hw (by intro h; cases h) hop hf hname hb ⟨rfl, rfl, rfl⟩)
  exact ⟨_, _, _, hgo, hD.nil (Nat.le_refl _), h _ (hs.at d)⟩
/-- An operation that leaves memory as it is. -/
theorem reaR_op (hF : GoodF P F) (hD : Dok X D) (u : Value) (ho : ops[i]? = some o) (hw : Region.wanted o (yielded ops T) = true) (hok : okOp P F o = true) (hrun : ∀ z : World, z.heap = v.heap → (execOp (⟨T, []⟩ : Act).eval o).run P z = .ok (.value u) z)
    (h : ReaR P X Y D Stop none [] f cs (.inRegion ops rest :: k) ((⟨T, []⟩ : Act).put o.dst u).tmps v) : ReaR P X Y D Stop none [] f cs (.inRegion ops (i :: rest) :: k) T v := by
  have hd : ((⟨T, []⟩ : Act).put o.dst u) = ⟨((⟨T, []⟩ : Act).put o.dst u).tmps, []⟩ := by cases o.dst <;> rfl
  refine reaI_op (a := ⟨T, []⟩) hF hD ho hw hok fun τ d => ⟨_, hrun _ rfl, ?_⟩
  rw [hd]
  exact fun w ⟨τ0, d0, hs⟩ => h w ⟨τ0, d0, hs⟩
/-- An operation that yields nothing: a store. -/
theorem reaR_store (hF : GoodF P F) (hD : Dok X D) {a : Addr} {u : Value} (ho : ops[i]? = some o) (hw : Region.wanted o (yielded ops T) = true) (hok : okOp P F o = true) (hdst : o.dst = none) (hrun : ∀ z : World, z.heap = v.heap → (execOp (⟨T, []⟩ : Act).eval o).run P z = .ok .skip (z.setCell a u))
    (h : ReaR P X Y D Stop none [] f cs (.inRegion ops rest :: k) T (v.setCell a u)) : ReaR P X Y D Stop none [] f cs (.inRegion ops (i :: rest) :: k) T v := by
  intro w hs
  refine .next rfl fun d => ?_
  have h0 := hrun { v with tape := fun p => w.tape (d + p), drawn := 0 } rfl
  obtain ⟨w', h1, h2, h3, h4⟩ := op_run hF hok h0 (hs.re d 0 (fun p => w.tape (d + p)) fun i q => by simp) f
  refine ⟨G (Dn none [] f T (.inRegion ops rest :: k)) cs, w', listed P f ⟨T, []⟩ o (w.at d), ?_, hD _ _ _ h3 h4, h w' ⟨_, _, h2⟩⟩
  have hfin : ((base f).at ⟨T, []⟩ (.inRegion ops (i :: rest) :: k)).finish undef = Dn none [] f T (.inRegion ops rest :: k) := by
    rw [Frame.finish_at, ho]
    simp only [Option.bind_some, hdst]
    rfl
  show stepG P true (G ((base f).at ⟨T, []⟩ (.inRegion ops (i :: rest) :: k)) cs) (w.at d) = _
  rw [stepG_oper ho hw, ← hfin]
  simp [stepG.apply, h1, G, Frame.at, base, GStep.after, listed]
theorem Dn_finish_range (l : Nat) (y : Value) : (Dn ro ds f T (.inRangeFunc l :: k)).finish y = Dn ro ds f T (.endRangeFunc l :: k) := rfl
theorem Dn_finish (ho : ops[i]? = some o) (y : Value) : (Dn ro ds f T (.inRegion ops (i :: rest) :: k)).finish y = Dn ro ds f ((⟨T, []⟩ : Act).put o.dst y).tmps (.inRegion ops rest :: k) := by
  simp only [Frame.finish, Dn, ho, Option.bind_some, Act.put]
  cases o.dst <;> rfl
end
end Go.Lf

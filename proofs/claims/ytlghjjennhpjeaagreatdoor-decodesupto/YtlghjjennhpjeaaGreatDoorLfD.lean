/-
  The operations that a lone run is made of: which they are, and what each leads to.
-/
import Derived.Test.YtlghjjennhpjeaaGreatDoorLfG
namespace Go.Lf

/-- All that it can yield. -/
def Leaf (P : Program) {α : Type} (Q : α → Prop) : Sem α → Prop
  | .pure a => Q a
  | .load _ _ k => ∀ v, Leaf P Q (k v)
  | .store _ _ _ k => Leaf P Q k
  | .new _ k => ∀ r, Leaf P Q (k r)
  | .shape _ k => ∀ s, Leaf P Q (k s)
  | .freeze _ _ k => Leaf P Q k
  | .frozen _ k => ∀ b, Leaf P Q (k b)
  | .getObj _ k => ∀ o, Leaf P Q (k o)
  | .setObj _ _ k => Leaf P Q k
  | .choose _ k => ∀ n, Leaf P Q (k n)
  | .sys _ k => ∀ r, Leaf P Q (k r)
  | .program k => Leaf P Q (k P)
  | .mark _ k => Leaf P Q k
  | .halt _ => True
section
variable {P : Program} {α β : Type}
theorem leaf_bind {Q : β → Prop} : ∀ (s : Sem α) (f : α → Sem β), (∀ a, Leaf P Q (f a)) → Leaf P Q (s.bind f)
  | .pure a, _, h => h a
  | .load _ _ k, f, h => fun v => leaf_bind (k v) f h
  | .store _ _ _ k, f, h => leaf_bind k f h
  | .new _ k, f, h => fun v => leaf_bind (k v) f h
  | .shape _ k, f, h => fun v => leaf_bind (k v) f h
  | .freeze _ _ k, f, h => leaf_bind k f h
  | .frozen _ k, f, h => fun v => leaf_bind (k v) f h
  | .getObj _ k, f, h => fun v => leaf_bind (k v) f h
  | .setObj _ _ k, f, h => leaf_bind k f h
  | .choose _ k, f, h => fun v => leaf_bind (k v) f h
  | .sys _ k, f, h => fun v => leaf_bind (k v) f h
  | .program k, f, h => leaf_bind (k P) f h
  | .mark _ k, f, h => leaf_bind k f h
  | .halt _, _, _ => trivial
theorem leaf_bind2 {R : α → Prop} {Q : β → Prop} : ∀ (s : Sem α) (f : α → Sem β), Leaf P R s → (∀ a, R a → Leaf P Q (f a)) → Leaf P Q (s.bind f)
  | .pure a, _, hs, h => h a hs
  | .load _ _ k, f, hs, h => fun v => leaf_bind2 (k v) f (hs v) h
  | .store _ _ _ k, f, hs, h => leaf_bind2 k f hs h
  | .new _ k, f, hs, h => fun v => leaf_bind2 (k v) f (hs v) h
  | .shape _ k, f, hs, h => fun v => leaf_bind2 (k v) f (hs v) h
  | .freeze _ _ k, f, hs, h => leaf_bind2 k f hs h
  | .frozen _ k, f, hs, h => fun v => leaf_bind2 (k v) f (hs v) h
  | .getObj _ k, f, hs, h => fun v => leaf_bind2 (k v) f (hs v) h
  | .setObj _ _ k, f, hs, h => leaf_bind2 k f hs h
  | .choose _ k, f, hs, h => fun v => leaf_bind2 (k v) f (hs v) h
  | .sys _ k, f, hs, h => fun v => leaf_bind2 (k v) f (hs v) h
  | .program k, f, hs, h => leaf_bind2 (k P) f hs h
  | .mark _ k, f, hs, h => leaf_bind2 k f hs h
  | .halt _, _, _, _ => trivial
theorem leaf_run {Q : α → Prop} : ∀ (s : Sem α), Leaf P Q s → ∀ (w : World) (es : Array Event) (x : α) (w' : World) (es' : Array Event), s.runT P w es = (.ok x w', es') → Q x
  | .pure a, h, w, es, x, w', es', hr => by simp only [Sem.runT] at hr; cases hr; exact h
  | .load m a k, h, w, es, x, w', es', hr => by
    unfold Sem.runT at hr
    cases hc : w.cell? a with
    | some v => rw [hc] at hr; exact leaf_run (k v) (h v) _ _ _ _ _ hr
    | none =>
      rw [hc] at hr
      dsimp only at hr
      cases hf : w.farLoad P a (m == .atomic) with
      | ok r => rw [hf] at hr; exact leaf_run (k r.1) (h r.1) _ _ _ _ _ hr
      | error e => rw [hf] at hr; cases hr
  | .store m a v k, h, w, es, x, w', es', hr => by
    have key : (∀ (w : World), (Sem.store m a v k).runT P w es = match w.cell? a with
        | some _ => if w.frozen? a then (.halt (.unsupported (.unsafePointer "a write to bytes that a string shares")) w, es) else k.runT P (w.setCell a v) (es.push ⟨.cell a, true, m == Mode.atomic⟩)
        | none => match w.farStore P a v (m == Mode.atomic) with
          | .ok (w, touched) => k.runT P w (es ++ touched.toArray.map (⟨.cell ·, true, m == Mode.atomic⟩))
          | .error h => (.halt h w, es)) ∨ (∀ (w : World), (Sem.store m a v k).runT P w es = (.halt (.stuck "store: not the value of one cell") w, es)) := by
      cases v <;> first | exact .inr fun _ => rfl | exact .inl fun _ => rfl
    rcases key with key | key
    · rw [key] at hr
      cases hc : w.cell? a with
      | some u =>
        rw [hc] at hr
        dsimp only at hr
        split at hr
        · cases hr
        · exact leaf_run k h _ _ _ _ _ hr
      | none =>
        rw [hc] at hr
        dsimp only at hr
        cases hf : w.farStore P a v (m == .atomic) with
        | ok r => rw [hf] at hr; exact leaf_run k h _ _ _ _ _ hr
        | error e => rw [hf] at hr; cases hr
    · rw [key] at hr; cases hr
  | .new o k, h, w, es, x, w', es', hr => leaf_run (k w.heap.size) (h _) _ es x w' es' hr
  | .shape r k, h, w, es, x, w', es', hr => leaf_run (k (w.shape? r)) (h _) w es x w' es' hr
  | .freeze a n k, h, w, es, x, w', es', hr => leaf_run k h (w.freeze a n) es x w' es' hr
  | .frozen a k, h, w, es, x, w', es', hr => leaf_run (k (w.frozen? a)) (h _) w es x w' es' hr
  | .getObj r k, h, w, es, x, w', es', hr => by
    unfold Sem.runT at hr
    split at hr
    · cases hr
    · exact leaf_run (k _) (h _) _ _ _ _ _ hr
    · cases hr
  | .setObj r o k, h, w, es, x, w', es', hr => by
    unfold Sem.runT at hr
    split at hr
    · cases hr
    · exact leaf_run k h _ _ _ _ _ hr
    · cases hr
  | .choose q k, h, w, es, x, w', es', hr => by
    unfold Sem.runT at hr
    split at hr
    · exact leaf_run (k 0) (h _) _ _ _ _ _ hr
    · exact leaf_run (k _) (h _) _ _ _ _ _ hr
  | .sys c k, h, w, es, x, w', es', hr => leaf_run (k (w.sys c).1) (h _) (w.sys c).2 _ x w' es' hr
  | .program k, h, w, es, x, w', es', hr => leaf_run (k P) h w es x w' es' hr
  | .mark m k, h, w, es, x, w', es', hr => leaf_run k h w _ x w' es' hr
  | .halt _, _, _, _, _, _, _, hr => by simp only [Sem.runT] at hr; cases hr

theorem plain_listM {f : α → Sem β} (h : ∀ a, Plain P (f a)) : ∀ l : List α, Plain P (l.mapM f)
  | [] => trivial
  | a :: l => by
    rw [List.mapM_cons]
    exact plain_bind (h a) fun b => plain_bind (plain_listM h l) fun bs => plain_pure _
theorem plain_mapM {f : α → Sem β} (h : ∀ a, Plain P (f a)) (l : Array α) : Plain P (l.mapM f) := by
  rw [Array.mapM_eq_mapM_toList]
  exact plain_map (plain_listM h _)
end

def isInt (P : Program) (t : TypeId) : Bool := match P.underlying t with | some (.int _) => true | _ => false
theorem isInt_spec {P : Program} {t : TypeId} (h : isInt P t = true) : ∃ k, P.underlying t = some (.int k) := by
  unfold isInt at h
  split at h
  · exact ⟨_, by assumption⟩
  · cases h
/-- Numbers, truths, words. -/
def isFlat (P : Program) (t : TypeId) : Bool := match P.underlying t with | some (.int _) => true | some .string => true | some .bool => true | _ => false
theorem isFlat_spec {P : Program} {t : TypeId} (h : isFlat P t = true) : (∃ k, P.underlying t = some (.int k)) ∨ P.underlying t = some .string ∨ P.underlying t = some .bool := by
  unfold isFlat at h
  split at h
  · exact .inl ⟨_, by assumption⟩
  · exact .inr (.inl (by assumption))
  · exact .inr (.inr (by assumption))
  · cases h
/-- Bytes, made a word. -/
def isBytes (P : Program) (s d : TypeId) : Bool := match P.underlying s, P.underlying d with
  | some (.slice e), some .string => (match P.underlying e with | some (.int .u8) => true | _ => false)
  | _, _ => false
theorem isBytes_spec {P : Program} {s d : TypeId} (h : isBytes P s d = true) : ∃ e, P.underlying s = some (.slice e) ∧ P.underlying d = some .string ∧ P.underlying e = some (.int .u8) := by
  unfold isBytes at h
  split at h
  · rename_i e h1 h2
    split at h
    · exact ⟨e, h1, h2, by assumption⟩
    · cases h
  · cases h
/-- A word, made bytes. -/
def isStr (P : Program) (s d : TypeId) : Bool := match P.underlying s, P.underlying d with
  | some .string, some (.slice e) => (match P.underlying e with | some (.int .u8) => true | _ => false)
  | _, _ => false
theorem isStr_spec {P : Program} {s d : TypeId} (h : isStr P s d = true) : ∃ e, P.underlying s = some .string ∧ P.underlying d = some (.slice e) ∧ P.underlying e = some (.int .u8) := by
  unfold isStr at h
  split at h
  · rename_i e h1 h2
    split at h
    · exact ⟨e, h1, h2, by assumption⟩
    · cases h
  · cases h
def okBuiltin : Builtin → Bool
  | .len | .cap | .append | .copy | .min | .max => true
  | _ => false
/-- How many values a function is called with. -/
def arity (P : Program) (f : FuncId) : Nat := match P.funcs[f]? with
  | some fn => fn.params.size + fn.nfree
  | none => 0
/-- Slots that hold a function that is known, with so many values bound in it. -/
abbrev Clos := List (Nat × FuncId × Nat)
def okSrc (S : Clos) (x : FuncId × Nat) : Op → Bool
  | .makeFunc (.func g) first cap => g == x.1 && first.size + cap.size == x.2
  | .move (.tmp j) => S.contains (j, x)
  | .assign (.tmp j) => S.contains (j, x)
  | _ => false
def okDst (S : Clos) (o : Oper) : Bool := S.all fun x => if o.dst == some x.1 then okSrc S x.2 o.op else true
/-- Every method of this name may be called. -/
def okMeth (P : Program) (F : FuncId → Bool) (n : Nat) (name : String) : Bool := P.types.all fun i => i.methods.all fun m => m.name != name || match m.func with
  | none => true
  | some (f, _) => F f && decide (n ≤ arity P f)
/-- An operation that a lone run may be made of; F: the functions that may be called; S: the slots that hold functions that are known. -/
def okOpS (P : Program) (F : FuncId → Bool) (S : Clos) (o : Oper) : Bool :=
  okDst S o && match o.op with
  | .move _ | .assign _ | .pick .. | .alloc _ | .box .. | .build .. | .buildSlice .. | .load .. | .store .. | .nilCheck _ | .unOp .. | .makeSlice .. | .makeFunc .. | .slice .. | .fieldAddr .. | .field .. | .indexAddr .. | .index .. | .extract .. | .binOp .. | .typeAssert .. | .makeInterface .. | .panic _ => true
  | .convert s d _ => (isInt P s && isInt P d) || isBytes P s d || isStr P s d
  | .call c => match c.callee with
    | .builtin b => okBuiltin b
    | .value (.func f) => F f && decide (c.args.size ≤ arity P f)
    | .value (.tmp j) => S.any (fun x => x.1 == j) && S.all fun x => if x.1 == j then F x.2.1 && decide (x.2.2 + c.args.size ≤ arity P x.2.1) else true
    | .invoke _ name => okMeth P F (1 + c.args.size) name
    | _ => false
  | _ => false
def okCodeS (P : Program) (F : FuncId → Bool) (S : Clos) : Code → Bool
  | .skip | .ret | .exit _ => true
  | .seq a b => okCodeS P F S a && okCodeS P F S b
  | .cond _ a b => okCodeS P F S a && okCodeS P F S b
  | .block _ c => okCodeS P F S c
  | .loop c => okCodeS P F S c
  | .region _ ops _ => ops.all (okOpS P F S)
  | _ => false
abbrev okOp (P : Program) (F : FuncId → Bool) (o : Oper) : Bool := okOpS P F [] o
abbrev okCode (P : Program) (F : FuncId → Bool) (c : Code) : Bool := okCodeS P F [] c
/-- A function of such code. -/
def GoodBody (P : Program) (F : FuncId → Bool) (f : FuncId) : Prop := ∃ fn c S, P.funcs[f]? = some fn ∧ (fn.name == "runtime.NumGoroutine") = false ∧ fn.body = some c ∧ okCodeS P F S c = true ∧ ∀ x ∈ S, arity P f ≤ x.1
/-- A function without a body, of whose doing the same is known. -/
def GoodExt (P : Program) (f : FuncId) : Prop := ∃ fn, P.funcs[f]? = some fn ∧ (fn.name == "runtime.NumGoroutine") = false ∧ fn.body = none ∧ Extern.findNext fn = none ∧ ∀ e, Extern.find fn = some e → ∀ as, Okay P (e as)
/-- The functions that may be called are there, and of such code. -/
def GoodF (P : Program) (F : FuncId → Bool) : Prop := ∀ f, F f = true → GoodBody P F f ∨ GoodExt P f
def hasBody (P : Program) (f : FuncId) : Bool := (P.funcs[f]?).any (·.body.isSome)
theorem GoodF.body {P : Program} {F : FuncId → Bool} (h : GoodF P F) {f : FuncId} (hf : F f = true) (hb : hasBody P f = true) : GoodBody P F f := by
  rcases h f hf with h1 | ⟨fn, h1, _, h3, _⟩
  · exact h1
  · unfold hasBody at hb
    rw [h1] at hb
    simp [h3] at hb

/-- What an operation of such code yields. -/
def Yld (P : Program) (F : FuncId → Bool) (x : Next) : Prop := (∃ v, x = .value v) ∨ x = .skip ∨ ∃ f as, GoodBody P F f ∧ as.size ≤ arity P f ∧ x = .enter f as

section
variable {P : Program} {F : FuncId → Bool}
theorem okay_callFunc (hF : GoodF P F) {f : FuncId} (hf : F f = true) {as : Array Value} (ha : as.size ≤ arity P f) : Okay P (callFunc f as) ∧ Leaf P (Yld P F) (callFunc f as) := by
  rcases hF f hf with ⟨fn, c, S, h1, h2, h3, h4, h5⟩ | ⟨fn, h1, h2, h3, h4, h6⟩
  · have hne : fn.body.isNone = false := by rw [h3]; rfl
    have key : ∀ (Q : Sem Next → Prop), Q (pure (.enter f as)) → Q ((fun p : Program => match p.funcs[f]? with
      | none => stuck "call: no such function"
      | some fn => if fn.name == "runtime.NumGoroutine" then pure .numGoroutine
        else if fn.body.isNone then (do
          mark (.extern f)
          if let some e := Extern.findNext fn then return ← e as
          match Extern.find fn with
          | some e => pure (.value (← e as))
          | none =>
            if fn.name.endsWith ".init" && !fn.name.startsWith "(" && !fn.name.startsWith "gosem." then pure (.value (.tuple #[]))
            else unsupported (.extern fn.name))
        else pure (.enter f as) : Program → Sem Next) P) := fun Q hQ => by
      dsimp only
      rw [h1]
      dsimp only
      rw [h2, hne]
      exact hQ
    refine ⟨Okay.of (key (Plain P) (plain_pure _)), key (Leaf P (Yld P F)) (.inr (.inr ⟨f, as, ⟨fn, c, S, h1, h2, h3, h4, h5⟩, ha, rfl⟩))⟩
  · have hne : fn.body.isNone = true := by rw [h3]; rfl
    have hm : Okay P (mark (.extern f)) := Okay.of ⟨.inr ⟨f, rfl⟩, trivial⟩
    cases h5 : Extern.find fn with
    | some x =>
      have key : ∀ (Q : Sem Next → Prop), Q (mark (.extern f) >>= fun _ => (do pure (.value (← x as)))) → Q ((fun p : Program => match p.funcs[f]? with
        | none => stuck "call: no such function"
        | some fn => if fn.name == "runtime.NumGoroutine" then pure .numGoroutine
          else if fn.body.isNone then (do
            mark (.extern f)
            if let some e := Extern.findNext fn then return ← e as
            match Extern.find fn with
            | some e => pure (.value (← e as))
            | none =>
              if fn.name.endsWith ".init" && !fn.name.startsWith "(" && !fn.name.startsWith "gosem." then pure (.value (.tuple #[]))
              else unsupported (.extern fn.name))
          else pure (.enter f as) : Program → Sem Next) P) := fun Q hQ => by
        dsimp only
        rw [h1]
        dsimp only
        rw [h2, hne, h4, h5]
        exact hQ
      have h8 : Okay P (mark (.extern f) >>= fun _ => (do pure (Next.value (← x as)) : Sem Next)) := Okay.bind hm fun _ => Okay.bind (h6 x h5 as) fun _ => okay_pure _
      have h9 : Leaf P (Yld P F) (mark (.extern f) >>= fun _ => (do pure (Next.value (← x as)) : Sem Next)) := leaf_bind (mark (.extern f)) _ fun _ => leaf_bind (x as) _ fun v => .inl ⟨v, rfl⟩
      exact ⟨okay_prog (key (fun s => Okay P s) h8), key (Leaf P (Yld P F)) h9⟩
    | none =>
      have key : ∀ (Q : Sem Next → Prop), Q (mark (.extern f) >>= fun _ => (if (fn.name.endsWith ".init" && !fn.name.startsWith "(" && !fn.name.startsWith "gosem.") = true then pure (.value (.tuple #[])) else unsupported (.extern fn.name))) → Q ((fun p : Program => match p.funcs[f]? with
        | none => stuck "call: no such function"
        | some fn => if fn.name == "runtime.NumGoroutine" then pure .numGoroutine
          else if fn.body.isNone then (do
            mark (.extern f)
            if let some e := Extern.findNext fn then return ← e as
            match Extern.find fn with
            | some e => pure (.value (← e as))
            | none =>
              if fn.name.endsWith ".init" && !fn.name.startsWith "(" && !fn.name.startsWith "gosem." then pure (.value (.tuple #[]))
              else unsupported (.extern fn.name))
          else pure (.enter f as) : Program → Sem Next) P) := fun Q hQ => by
        dsimp only
        rw [h1]
        dsimp only
        rw [h2, hne, h4, h5]
        exact hQ
      refine ⟨okay_prog (key (fun s => Okay P s) (Okay.bind hm fun _ => Okay.ite (okay_pure _) (okay_uns trivial))), key (Leaf P (Yld P F)) (leaf_bind (mark (.extern f)) _ fun _ => ?_)⟩
      split
      · exact .inl ⟨_, rfl⟩
      · exact trivial
end
attribute [local irreducible] Plain
section
variable {P : Program} {F : FuncId → Bool}
theorem plain_build (t : TypeId) (ps : Array (Nat × Value)) : Plain P (Instr.build t ps) := by
  unfold Instr.build
  (repeat' (first | with_reducible (first | exact plain_pure _ | exact plain_stuck _ | exact plain_zeroValue _ | exact plain_underlying _ | exact plain_sizeOf _ | exact plain_mapM (fun _ => plain_bind (plain_sizeOf _) fun _ => plain_pure _) _ | (refine plain_bind ?_ (fun _ => ?_))) | split))
theorem plain_conv {s d : TypeId} {k k' : IntKind} (hs : P.underlying s = some (.int k)) (hd : P.underlying d = some (.int k')) (x : Value) : Plain P (convert s d x) := by
  unfold convert
  refine plain_under hs (plain_under hd ?_)
  have h1 : ∀ k n, Plain P (Conv.intToInt k n) := fun k n => by unfold Conv.intToInt; (repeat' (with_reducible exact plain_pure _))
  have h2 : ∀ a b k, Plain P (Conv.floatToInt a b k) := fun a b k => by unfold Conv.floatToInt; (repeat' (first | with_reducible (first | exact plain_pure _ | exact plain_choose _ | (refine plain_bind ?_ (fun _ => ?_)) | (refine plain_ite ?_ ?_)) | split))
  split <;> first | contradiction | (repeat' (first | ((with_reducible refine plain_uns ?_); exact trivial) | with_reducible (first | exact h1 _ _ | exact h2 _ _ _)))
theorem plain_forIn {γ σ : Type} {f : γ → σ → Sem (ForInStep σ)} (h : ∀ a s, Plain P (f a s)) : ∀ (l : List γ) (s : σ), Plain P (forIn l s f)
  | [], s => by rw [List.forIn_nil]; exact plain_pure _
  | a :: l, s => by
    rw [List.forIn_cons]
    refine plain_bind (h a s) fun r => ?_
    cases r with
    | done b => exact plain_pure _
    | yield b => exact plain_forIn h l b
theorem plain_bytesTo (x : Value) : Plain P (Conv.bytesToString x) := by
  unfold Conv.bytesToString
  split
  · exact plain_pure _
  · refine plain_bind (plain_loadCells _ _) fun cs => plain_bind ?_ fun _ => plain_pure _
    rw [← Array.forIn_toList]
    refine plain_forIn (fun c s => ?_) _ _
    (repeat' (first | with_reducible (first | exact plain_pure _ | exact plain_stuck _ | (refine plain_bind ?_ (fun _ => ?_))) | split))
  · (repeat' (with_reducible exact plain_stuck _))
theorem plain_convB {s d e : TypeId} (hs : P.underlying s = some (.slice e)) (hd : P.underlying d = some .string) (he : P.underlying e = some (.int .u8)) (x : Value) : Plain P (convert s d x) := by
  unfold convert
  refine plain_under hs (plain_under hd ?_)
  have h1 : ∀ n, Plain P (Conv.intToString n) := fun n => by unfold Conv.intToString; (repeat' (with_reducible exact plain_pure _))
  have h2 : Plain P (underlying e >>= fun u => match u with | .int .u8 => Conv.bytesToString x | .int .i32 => Conv.runesToString x | _ => stuck "Convert: a slice of what to string?") := plain_under he (plain_bytesTo x)
  split
  all_goals first
    | contradiction
    | exact plain_pure _
    | exact h1 _
    | (rename_i hh _ _ _; cases hh; exact h2)
    | trivial
    | (repeat' ((with_reducible refine plain_uns ?_); exact trivial))
theorem Okay.congr {α : Type} {s s' : Sem α} (h : ∀ w es, s.runT P w es = s'.runT P w es) (h' : Okay P s') : Okay P s :=
  ⟨fun w v es x v' es' hs hr => by rw [h] at hr ⊢; exact h'.sim w v es x v' es' hs hr, fun v es x v' es' hn hr => by
    rw [h] at hr
    obtain ⟨a, b, c⟩ := h'.tape v es x v' es' hn hr
    exact ⟨a, b, fun τ hτ => by rw [h]; exact c τ hτ⟩, fun w v es x v' es' hs hr => by rw [h] at hr; exact h'.halts w v es x v' es' hs hr⟩
theorem made_mark (w : World) (cs : Array Value) (t : TypeId) : ({ w with heap := w.heap.push (.cells cs t) } : World).freeze ⟨w.heap.size, cs.size, none⟩ 1 = { w with heap := w.heap.push (.cells cs t (cs.size, cs.size + 1)) } := by
  unfold World.freeze
  rw [if_neg (by decide)]
  congr 1
  apply Array.ext
  · simp
  · intro i h1 h2
    rw [Array.getElem_modify]
    have hi : i < w.heap.size + 1 := by simpa using h2
    by_cases e : w.heap.size = i
    · subst e
      simp
    · rw [if_neg e, Array.getElem_push_lt (by omega), Array.getElem_push_lt (by omega)]
theorem okay_toBytes (t : TypeId) (s : ByteArray) : Okay P (Conv.stringToBytes t s) := by
  unfold Conv.stringToBytes
  refine Okay.bind (okay_choose _) fun cap => ?_
  dsimp only
  generalize (s.data.map fun (b : UInt8) => Value.int .u8 b.toNat) ++ Array.replicate (cap - s.size) (Value.int .u8 0) = cs
  refine Okay.congr (s' := newObj (.cells cs t (cs.size, cs.size + 1)) >>= fun b => pure (.slice (some ⟨b, 0, none⟩) s.size cap)) (fun w es => ?_) (Okay.of (plain_bind (plain_new trivial) fun _ => plain_pure _))
  have hg : ({ w with heap := w.heap.push (.cells cs t) } : World).shape? w.heap.size = some (t, cs.size) := by simp [World.shape?]
  show ((markStringish ⟨w.heap.size, 0, none⟩).bind fun _ => Sem.pure (Value.slice (some ⟨w.heap.size, 0, none⟩) s.size cap)).runT P { w with heap := w.heap.push (.cells cs t) } es = _
  unfold markStringish
  simp only [shape, freeze, bind, Sem.bind, Sem.runT, hg, pure]
  rw [made_mark]
  rfl
theorem okay_convS {s d e : TypeId} (hs : P.underlying s = some .string) (hd : P.underlying d = some (.slice e)) (he : P.underlying e = some (.int .u8)) (x : Value) : Okay P (convert s d x) := by
  have key : ∀ (k : TypeDesc → Sem Value) (t : TypeId) (u : TypeDesc), P.underlying t = some u → Okay P (k u) → Okay P (underlying t >>= k) := fun k t u ht hk => by
    refine Okay.congr (s' := k u) (fun w es => ?_) hk
    show ((match P.underlying t with | some d => pure d | none => stuck "no such type" : Sem TypeDesc).bind k).runT P w es = _
    rw [ht]
    rfl
  unfold convert
  refine key _ s _ hs (key _ d _ hd ?_)
  cases x
  case string b => exact key _ e _ he (okay_toBytes e b)
  case slice a n c => cases a <;> exact okay_uns (u := .noEntry "convert/other") trivial
  case pointer a => cases a <;> exact okay_uns (u := .noEntry "convert/other") trivial
  all_goals exact okay_uns (u := .noEntry "convert/other") trivial
theorem plain_min2 (x y : Value) : Plain P (Builtin.min2 x y) := by
  unfold Builtin.min2
  split <;> (repeat' (first | with_reducible (first | exact plain_pure _ | exact plain_stuck _) | ((with_reducible refine plain_uns ?_); exact trivial) | with_reducible (first | exact plain_choose _ | exact plain_stringOp _ _ _ | exact plain_asBool _ | (refine plain_bind ?_ (fun _ => ?_))) | split))
theorem plain_foldMin : ∀ (l : List Value) (x : Value), Plain P (l.foldlM Builtin.min2 x)
  | [], x => by rw [List.foldlM_nil]; exact plain_pure _
  | y :: l, x => by
    rw [List.foldlM_cons]
    exact plain_bind (plain_min2 x y) fun r => plain_foldMin l r
theorem plain_min (ts : Array TypeId) (t : TypeId) (as : Array Value) : Plain P (Builtin.min_ ts t as) := by
  unfold Builtin.min_
  split
  · (repeat' (with_reducible exact plain_stuck _))
  · exact plain_foldMin _ _
theorem plain_followBlind : ∀ (path : List FieldStep) (t : TypeId) (x : Option Value), Plain P (followBlind path t x)
  | [], _, _ => plain_pure _
  | s :: rest, _, _ => by
    unfold followBlind
    have ih := plain_followBlind rest
    (repeat' (first | with_reducible (first | exact plain_pure _ | exact plain_stuck _ | exact plain_underlying _ | exact plain_part _ _ _ | exact ih _ _ | (refine plain_bind ?_ (fun _ => ?_))) | split))
theorem plain_nilAhead : ∀ (n : Nat) (t : TypeId) (v : Value) (name : String), Plain P (nilAhead n t v name)
  | 0, _, _, _ => plain_pure _
  | n + 1, t, v, name => by
    unfold nilAhead
    have ih := plain_nilAhead n
    (repeat' (first | with_reducible (first | exact plain_pure _ | exact plain_stuck _ | exact plain_typeInfo _ | exact plain_underlying _ | exact plain_followBlind _ _ _ | exact ih _ _ _ | (refine plain_bind ?_ (fun _ => ?_))) | split))
theorem leaf_nil {Q : Next → Prop} : Leaf P Q (runtimePanic .nilDeref : Sem Next) := by
  unfold runtimePanic
  exact leaf_bind program _ fun p => trivial
theorem leaf_val {s : Sem Value} : Leaf P (Yld P F) (do pure (.value (← s))) := leaf_bind s _ fun a => .inl ⟨a, rfl⟩
theorem leaf_unit {s : Sem Unit} : Leaf P (Yld P F) (do s; pure .skip) := leaf_bind s _ fun _ => .inr (.inl rfl)

theorem made_methods (info : TypeId → Option TypeInfo) (d : TypeDesc) (i : TypeInfo) (h : Made.reckon info d = some i) : i.methods = #[] := by
  have hs : ∀ fs, Made.reckonStruct info fs = some i → i.methods = #[] := fun fs h => by
    unfold Made.reckonStruct at h
    simp only [Option.bind_eq_bind, Option.bind_eq_some_iff, Option.pure_def] at h
    obtain ⟨r, _, h⟩ := h
    split at h <;> (cases h; rfl)
  unfold Made.reckon at h
  split at h
  case h_7 => exact hs _ h
  case h_1 =>
    simp only [Option.bind_eq_bind, Option.bind_eq_some_iff, Option.pure_def] at h
    obtain ⟨r, _, h⟩ := h
    split at h
    · cases h
    · split at h
      · cases h
      · obtain ⟨_, _, h⟩ := Option.bind_eq_some_iff.1 h
        cases h
        rfl
    · obtain ⟨_, _, h⟩ := Option.bind_eq_some_iff.1 h
      cases h
      rfl
  all_goals first
    | cases h
    | (simp only [Option.bind_eq_bind, Option.bind_eq_some_iff, Option.pure_def] at h
       repeat (obtain ⟨_, _, h⟩ := h)
       first | rfl | (cases h; rfl))
theorem info_methods {t : TypeId} {i : TypeInfo} (h : P.info? t = some i) : i ∈ P.types ∨ i.methods = #[] := by
  have key : ∀ n, Made.infoAt P.toTables n t = some i → i ∈ P.types ∨ i.methods = #[] := fun n hn => by
    cases n with
    | zero => cases hn
    | succ n =>
      unfold Made.infoAt at hn
      split at hn
      · exact .inl (Array.mem_of_getElem? hn)
      · obtain ⟨d, _, hd⟩ := Option.bind_eq_some_iff.1 hn
        exact .inr (made_methods _ _ _ hd)
  unfold Tables.info? at h
  split at h
  · exact .inl (Array.mem_of_getElem? h)
  · exact key _ h
theorem Okay.bind2 {α β : Type} {R : α → Prop} {s : Sem α} {f : α → Sem β} (h : Okay P s) (hl : Leaf P R s) (h' : ∀ a, R a → Okay P (f a)) : Okay P (s >>= f) := by
  have e : ∀ w es, (s >>= f).runT P w es = match s.runT P w es with
      | (.ok a w', es') => (f a).runT P w' es'
      | (.halt x w', es') => (.halt x w', es') := fun w es => Go.Sem.runT_bind' P s f w es
  have key : ∀ a v es v1 es1, s.runT P v es = (.ok a v1, es1) → Okay P (f a) := fun a v es v1 es1 hr => h' a (leaf_run s hl v es a v1 es1 hr)
  refine ⟨fun w v es x v' es' hs hr => ?_, fun v es x v' es' hn hr => ?_, fun w v es x v' es' hs hr => ?_⟩
  · rw [e] at hr
    cases hr1 : s.runT P v es with
    | mk r es1 =>
      rw [hr1] at hr
      cases r with
      | halt y v1 => cases hr
      | ok a v1 =>
        obtain ⟨w1, h1, h2, h3, h4⟩ := h.sim w v es a v1 es1 hs hr1
        obtain ⟨w2, g1, g2, g3, g4⟩ := (key _ _ _ _ _ hr1).sim w1 v1 es1 x v' es' h2 hr
        refine ⟨w2, by rw [e, h1]; exact g1, g2, by omega, fun ev hev => ?_⟩
        rcases g4 ev hev with g5 | g5
        · rcases h4 ev g5 with g6 | g6
          · exact .inl g6
          · exact .inr (g6.grow (by rw [h2.size, g2.size]; exact g3))
        · exact .inr g5
  · rw [e] at hr
    cases hr1 : s.runT P v es with
    | mk r es1 =>
      rw [hr1] at hr
      cases r with
      | halt y v1 => cases hr
      | ok a v1 =>
        obtain ⟨h1, h2, h3⟩ := h.tape v es a v1 es1 hn hr1
        obtain ⟨w1, _, hs1, _, _⟩ := h.sim v v es a v1 es1 (Sim.self hn) hr1
        obtain ⟨g1, g2, g3⟩ := (key _ _ _ _ _ hr1).tape v1 es1 x v' es' hs1.nv hr
        refine ⟨g1.trans h1, by omega, fun τ hτ => ?_⟩
        rw [e, h3 τ fun p hp1 hp2 => hτ p hp1 (by omega)]
        exact g3 τ fun p hp1 hp2 => by rw [h1]; exact hτ p (by omega) hp2
  · rw [e] at hr
    cases hr1 : s.runT P v es with
    | mk r es1 =>
      rw [hr1] at hr
      cases r with
      | halt y v1 =>
        cases hr
        exact h.halts w v es x v' es' hs hr1
      | ok a v1 =>
        obtain ⟨w1, _, h2, _, _⟩ := h.sim w v es a v1 es1 hs hr1
        exact (key _ _ _ _ _ hr1).halts w1 v1 es1 x v' es' h2 hr
theorem leaf_typeInfo (t : TypeId) : Leaf P (fun i => P.info? t = some i) (typeInfo t) := by
  unfold typeInfo
  show Leaf P (fun i => P.info? t = some i) (match P.info? t with | some i => pure i | none => _)
  cases h : P.info? t with
  | some i => exact rfl
  | none => trivial
theorem leaf_method {n : Nat} {name : String} (h : okMeth P F n name = true) : ∀ (fuel : Nat) (t : TypeId) (v : Value), Leaf P (fun r => F r.1 = true ∧ n ≤ arity P r.1) (method fuel t v name)
  | 0, _, _ => trivial
  | fuel + 1, t, v => by
    have ih := leaf_method h fuel
    unfold method
    refine leaf_bind2 (typeInfo t) _ (leaf_typeInfo t) fun i hi => ?_
    cases hm : i.methods.find? (·.name == name) with
    | none => trivial
    | some m =>
      have h1 := Array.mem_of_find?_eq_some hm
      have h2 : (m.name == name) = true := by simpa using Array.find?_some hm
      refine leaf_bind (follow _ _ _) _ fun r => ?_
      obtain ⟨xt, x⟩ := r
      dsimp only
      cases hf : m.func with
      | none =>
        refine leaf_bind (x.get xt) _ fun u => ?_
        cases u <;> first
          | exact ih _ _
          | trivial
          | (unfold runtimePanic; exact leaf_bind program _ fun p => trivial)
      | some q =>
        obtain ⟨f, pr⟩ := q
        refine leaf_bind (receiverAt _ _ _ _) _ fun u => ?_
        rcases info_methods hi with h3 | h3
        · have h4 := Array.all_eq_true_iff_forall_mem.1 h i h3
          have h5 := Array.all_eq_true_iff_forall_mem.1 h4 m h1
          rw [hf] at h5
          simp only [bne, h2, Bool.not_true, Bool.false_or, Bool.and_eq_true, decide_eq_true_eq] at h5
          exact h5
        · rw [h3] at h1
          simp at h1

theorem halt_panic (x : Value) : Okay P (Instr.panic x) := by
  have key : ∀ (v : World) (es : Array Event), (∀ (b : Nat) (o : Obj), v.heap[b]? = some o → NoView o) → ∃ h v' es', (Instr.panic x).runT P v es = (.halt h v', es') ∧ HaltOk h := fun v es hn => by
    cases x <;> first
      | exact ⟨_, _, _, rfl, trivial⟩
      | skip
    have e2 : ∃ (n : Bool) (es2 : Array Event), (Instr.panic .nilIface).runT P v es = (if n = true then goPanic .nilIface else runtimePanic .panicNil : Sem Value).runT P v es2 := ⟨_, _, rfl⟩
    obtain ⟨n, es2, e2⟩ := e2
    rw [e2]
    cases n with
    | true => exact ⟨_, _, _, rfl, trivial⟩
    | false =>
      simp only [Bool.false_eq_true, if_false]
      have hd : Doomed P (runtimePanic .panicNil : Sem Value) := by
        unfold runtimePanic
        exact Doomed.late program _ fun p => Doomed.late (elemOf _) _ fun _ => Doomed.late (newVar _ _) _ fun _ => trivial
      obtain ⟨h, v', es', h1⟩ := doomed_halts _ hd v es2
      exact ⟨h, v', es', h1, plain_halts _ v v es2 h v' es' (plain_runtimePanic _) (Sim.self hn) h1⟩
  refine ⟨fun w v es x v' es' hs hr => ?_, fun v es x v' es' hn hr => ?_, fun w v es x v' es' hs hr => ?_⟩
  · obtain ⟨h, v1, es1, h1, _⟩ := key v es hs.nv
    rw [h1] at hr
    cases hr
  · obtain ⟨h, v1, es1, h1, _⟩ := key v es hn
    rw [h1] at hr
    cases hr
  · obtain ⟨h, v1, es1, h1, h2⟩ := key v es hs.nv
    rw [h1] at hr
    cases hr
    exact h2

/-- What the slots hold. -/
def InvS (S : Clos) (tmps : Array Value) : Prop := ∀ x ∈ S, tmps.getD x.1 undef = undef ∨ ∃ fs cs, tmps.getD x.1 undef = .func (.func x.2.1) fs cs ∧ fs.size + cs.size = x.2.2

theorem exec_ok (hF : GoodF P F) {S : Clos} {tmps : Array Value} {ρ : Operand → Value} (hρ : ∀ f, ρ (.func f) = .func (.func f) #[] #[]) (hτ : ∀ j, ρ (.tmp j) = tmps.getD j undef) (hS : InvS S tmps) {o : Oper} (ho : okOpS P F S o = true) :
    Okay P (execOp ρ o) ∧ Leaf P (Yld P F) (execOp ρ o) := by
  obtain ⟨dst, op, ty, pos, after, guard⟩ := o
  have V : ∀ {s : Sem Value}, Plain P s → Okay P (do pure (Next.value (← s)) : Sem Next) := fun h => Okay.of (plain_bind h fun _ => plain_pure _)
  have VO : ∀ {s : Sem Value}, Okay P s → Okay P (do pure (Next.value (← s)) : Sem Next) := fun h => Okay.bind h fun _ => okay_pure _
  have U : ∀ {s : Sem Unit}, Plain P s → Okay P (do s; pure Next.skip : Sem Next) := fun h => Okay.of (plain_bind h fun _ => plain_pure _)
  unfold okOpS at ho
  rw [Bool.and_eq_true] at ho
  cases op
  case move => exact ⟨okay_pure _, .inl ⟨_, rfl⟩⟩
  case assign => exact ⟨okay_pure _, .inl ⟨_, rfl⟩⟩
  case pick c a b => exact ⟨Okay.of (plain_bind (plain_asBool _) fun _ => plain_pure _), leaf_bind (asBool _) _ fun _ => .inl ⟨_, rfl⟩⟩
  case alloc => exact ⟨V (plain_alloc _ _ _), leaf_val⟩
  case box => exact ⟨V (plain_box _ _), leaf_val⟩
  case build => exact ⟨V (plain_build _ _), leaf_val⟩
  case buildSlice => exact ⟨V (plain_buildSlice _ _ _), leaf_val⟩
  case load => exact ⟨V (plain_loadAt _ _), leaf_val⟩
  case store => exact ⟨U (plain_storeAt _ _ _), leaf_unit⟩
  case nilCheck x =>
    have e : execOp ρ ⟨dst, .nilCheck x, ty, pos, after, guard⟩ = (match ρ x with
      | .pointer none | .nilIface | .nilFunc => runtimePanic .nilDeref
      | .func (.method name) first captured =>
        match (first[0]? : Option Value) with
        | some .nilIface => runtimePanic .nilDeref
        | some (.iface t w) => do
          if (← nilAhead ((← program).types.size + Made.depth) t w name) != some false then
            unsupported (.noEntry "op/nilCheck.the method's receiver behind this interface value is a nil pointer, or cannot be seen to be none, and the arguments act or may panic (ledger 612)")
          pure (.value (.func (.method name) first captured))
        | _ => pure (.value (.func (.method name) first captured))
      | x => pure (.value x)) := rfl
    rw [e]
    have np : Okay P (runtimePanic .nilDeref : Sem Next) := Okay.of (plain_runtimePanic _)
    have nl : Leaf P (Yld P F) (runtimePanic .nilDeref : Sem Next) := leaf_nil
    split
    · exact ⟨np, nl⟩
    · exact ⟨np, nl⟩
    · exact ⟨np, nl⟩
    · split
      · exact ⟨np, nl⟩
      · constructor
        · refine Okay.of ?_
          (repeat' (first | with_reducible exact plain_pure _ | ((with_reducible refine plain_uns ?_); exact trivial) | with_reducible (first | exact plain_program | exact plain_nilAhead _ _ _ _ | (refine plain_bind ?_ (fun _ => ?_)) | (refine plain_ite ?_ ?_))))
        · refine leaf_bind program _ fun _ => leaf_bind (nilAhead _ _ _ _) _ fun r => ?_
          split
          · exact leaf_bind (unsupported _) _ fun _ => Or.inl ⟨_, rfl⟩
          · exact Or.inl ⟨_, rfl⟩
      · exact ⟨okay_pure _, .inl ⟨_, rfl⟩⟩
    · exact ⟨okay_pure _, .inl ⟨_, rfl⟩⟩
  case unOp => exact ⟨V (plain_unary _ _), leaf_val⟩
  case makeSlice => exact ⟨V (plain_makeSlice _ _ _), leaf_val⟩
  case makeFunc => exact ⟨V (plain_pure _), leaf_val⟩
  case slice => exact ⟨V (plain_sliceAt _ _ _ _ _), leaf_val⟩
  case fieldAddr => exact ⟨V (plain_fieldAt _ _ _), leaf_val⟩
  case field => exact ⟨V (plain_field _ _ _), leaf_val⟩
  case indexAddr => exact ⟨V (plain_indexAt _ _ _), leaf_val⟩
  case index => exact ⟨V (plain_index _ _ _), leaf_val⟩
  case extract => exact ⟨V (plain_extract _ _), leaf_val⟩
  case binOp op t x y t' => exact ⟨VO (Okay.bind (okay_guard _ _ _ _ _ _) fun _ => okay_binOp _ _ _ _), leaf_val⟩
  case typeAssert => exact ⟨VO (okay_typeAssert _ _ _ _), leaf_val⟩
  case makeInterface => exact ⟨VO (okay_makeInterface _ _), leaf_val⟩
  case panic => exact ⟨VO (halt_panic _), leaf_val⟩
  case convert s d x =>
    have h1 : ((isInt P s && isInt P d) || isBytes P s d || isStr P s d) = true := ho.2
    rw [Bool.or_eq_true, Bool.or_eq_true, Bool.and_eq_true] at h1
    rcases h1 with (h1 | h1) | h1
    · obtain ⟨k, hk⟩ := isInt_spec h1.1
      obtain ⟨k', hk'⟩ := isInt_spec h1.2
      exact ⟨V (plain_conv hk hk' _), leaf_val⟩
    · obtain ⟨e, h2, h3, h4⟩ := isBytes_spec h1
      exact ⟨V (plain_convB h2 h3 h4 _), leaf_val⟩
    · obtain ⟨e, h2, h3, h4⟩ := isStr_spec h1
      exact ⟨VO (okay_convS h2 h3 h4 _), leaf_val⟩
  case call c =>
    obtain ⟨callee, args, ats⟩ := c
    cases callee with
    | builtin b =>
      have h1 : okBuiltin b = true := ho.2
      cases b
      case len => exact ⟨V (plain_len _ _ _), leaf_val⟩
      case cap => exact ⟨V (plain_cap _ _ _), leaf_val⟩
      case append => exact ⟨V (plain_append _ _ _), leaf_val⟩
      case copy => exact ⟨V (plain_copy _ _ _), leaf_val⟩
      case min => exact ⟨V (plain_min _ _ _), leaf_val⟩
      case max => exact ⟨VO (okay_max _ _ _), leaf_val⟩
      all_goals cases h1
    | invoke recv name =>
      have h1 : okMeth P F (1 + args.size) name = true := ho.2
      have e : execOp ρ ⟨dst, .call ⟨.invoke recv name, args, ats⟩, ty, pos, after, guard⟩ = callMethod (ρ recv) name ((#[ρ recv] ++ args.map ρ).extract 1 (#[ρ recv] ++ args.map ρ).size) := by
        have h0 : (#[ρ recv] ++ args.map ρ)[0]? = some (ρ recv) := (Array.getElem?_append_left (Nat.zero_lt_one)).trans rfl
        show (match (#[ρ recv] ++ args.map ρ)[0]? with
          | some r => callMethod r name ((#[ρ recv] ++ args.map ρ).extract 1 (#[ρ recv] ++ args.map ρ).size)
          | _ => stuck "call: a method without a receiver") = _
        rw [h0]
      rw [e]
      unfold callMethod
      have hsz : ((#[ρ recv] ++ args.map ρ).extract 1 (#[ρ recv] ++ args.map ρ).size).size = args.size := by simp
      generalize (#[ρ recv] ++ args.map ρ).extract 1 (#[ρ recv] ++ args.map ρ).size = as at hsz
      cases ρ recv with
      | iface t v =>
        dsimp only
        refine ⟨okay_prog (Okay.bind2 (okay_method _ _ _ _) (leaf_method h1 _ _ _) fun r hr => (okay_callFunc hF (as := #[r.2] ++ as) hr.1 (by simp; omega)).1), leaf_bind program _ fun p => leaf_bind2 (method _ _ _ _) _ (leaf_method h1 _ _ _) fun r hr => (okay_callFunc hF (as := #[r.2] ++ as) hr.1 (by simp; omega)).2⟩
      | nilIface => exact ⟨Okay.of (plain_runtimePanic _), leaf_nil⟩
      | _ => exact ⟨okay_stuck _, trivial⟩
    | value x =>
      cases x with
      | func f =>
        have hf : (F f && decide (args.size ≤ arity P f)) = true := ho.2
        rw [Bool.and_eq_true, decide_eq_true_eq] at hf
        have e : execOp ρ ⟨dst, .call ⟨.value (.func f), args, ats⟩, ty, pos, after, guard⟩ = callFunc f (#[] ++ args.map ρ ++ #[]) := by
          show (Deferred.ofValue (ρ (.func f)) (args.map ρ) >>= fun d => invoke d.target d.args) = _
          rw [hρ]
          rfl
        rw [e]
        exact okay_callFunc hF (as := #[] ++ args.map ρ ++ #[]) hf.1 (by simpa using hf.2)
      | tmp j =>
        have hj : (S.any (fun x => x.1 == j) && S.all fun x => if x.1 == j then F x.2.1 && decide (x.2.2 + args.size ≤ arity P x.2.1) else true) = true := ho.2
        rw [Bool.and_eq_true] at hj
        obtain ⟨y, hy, hyj⟩ := List.any_eq_true.1 hj.1
        have hyj' : y.1 = j := by simpa using hyj
        have h2 := List.all_eq_true.1 hj.2 y hy
        rw [if_pos hyj, Bool.and_eq_true, decide_eq_true_eq] at h2
        have e0 : execOp ρ ⟨dst, .call ⟨.value (.tmp j), args, ats⟩, ty, pos, after, guard⟩ = (Deferred.ofValue (ρ (.tmp j)) (args.map ρ) >>= fun d => invoke d.target d.args) := rfl
        rw [e0, hτ]
        rcases hS y hy with h3 | ⟨fs, cs, h3, h4⟩
        · rw [← hyj', h3]
          exact ⟨okay_stuck _, trivial⟩
        · rw [← hyj', h3]
          exact okay_callFunc hF (as := fs ++ args.map ρ ++ cs) h2.1 (by simp; omega)
      | _ => cases ho.2
  all_goals cases ho.2
end
end Go.Lf

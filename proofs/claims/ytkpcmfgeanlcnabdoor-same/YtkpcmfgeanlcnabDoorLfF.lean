/-
  The operations that a lone run is made of: which they are, and what each leads to.
-/
import Derived.Test.YtkpcmfgeanlcnabDoorLfG
import Derived.Control
import Derived.Conc.Own
import Derived.Conc.Listed
import Derived.Conc.Own3
namespace Go.Lf

/-- All that it can yield. -/
def Leaf (P : Program) {α : Type} (Q : α → Prop) : Sem α → Prop
  | .pure a => Q a
  | .load _ _ k => ∀ v, Leaf P Q (k v)
  | .store _ _ _ k => Leaf P Q k
  | .new _ k => ∀ r, Leaf P Q (k r)
  | .shape _ k => ∀ s, Leaf P Q (k s)
  | .freeze _ _ k => Leaf P Q k
  | .frozen _ k => ∀ b, Leaf P Q (k b)
  | .getObj _ k => ∀ o, Leaf P Q (k o)
  | .setObj _ _ k => Leaf P Q k
  | .choose _ k => ∀ n, Leaf P Q (k n)
  | .sys _ k => ∀ r, Leaf P Q (k r)
  | .program k => Leaf P Q (k P)
  | .mark _ k => Leaf P Q k
  | .halt _ => True
section
variable {P : Program} {α β : Type}
theorem leaf_bind {Q : β → Prop} : ∀ (s : Sem α) (f : α → Sem β), (∀ a, Leaf P Q (f a)) → Leaf P Q (s.bind f)
  | .pure a, _, h => h a
  | .load _ _ k, f, h => fun v => leaf_bind (k v) f h
  | .store _ _ _ k, f, h => leaf_bind k f h
  | .new _ k, f, h => fun v => leaf_bind (k v) f h
  | .shape _ k, f, h => fun v => leaf_bind (k v) f h
  | .freeze _ _ k, f, h => leaf_bind k f h
  | .frozen _ k, f, h => fun v => leaf_bind (k v) f h
  | .getObj _ k, f, h => fun v => leaf_bind (k v) f h
  | .setObj _ _ k, f, h => leaf_bind k f h
  | .choose _ k, f, h => fun v => leaf_bind (k v) f h
  | .sys _ k, f, h => fun v => leaf_bind (k v) f h
  | .program k, f, h => leaf_bind (k P) f h
  | .mark _ k, f, h => leaf_bind k f h
  | .halt _, _, _ => trivial
theorem leaf_bind2 {R : α → Prop} {Q : β → Prop} : ∀ (s : Sem α) (f : α → Sem β), Leaf P R s → (∀ a, R a → Leaf P Q (f a)) → Leaf P Q (s.bind f)
  | .pure a, _, hs, h => h a hs
  | .load _ _ k, f, hs, h => fun v => leaf_bind2 (k v) f (hs v) h
  | .store _ _ _ k, f, hs, h => leaf_bind2 k f hs h
  | .new _ k, f, hs, h => fun v => leaf_bind2 (k v) f (hs v) h
  | .shape _ k, f, hs, h => fun v => leaf_bind2 (k v) f (hs v) h
  | .freeze _ _ k, f, hs, h => leaf_bind2 k f hs h
  | .frozen _ k, f, hs, h => fun v => leaf_bind2 (k v) f (hs v) h
  | .getObj _ k, f, hs, h => fun v => leaf_bind2 (k v) f (hs v) h
  | .setObj _ _ k, f, hs, h => leaf_bind2 k f hs h
  | .choose _ k, f, hs, h => fun v => leaf_bind2 (k v) f (hs v) h
  | .sys _ k, f, hs, h => fun v => leaf_bind2 (k v) f (hs v) h
  | .program k, f, hs, h => leaf_bind2 (k P) f hs h
  | .mark _ k, f, hs, h => leaf_bind2 k f hs h
  | .halt _, _, _, _ => trivial
theorem leaf_run {Q : α → Prop} : ∀ (s : Sem α), Leaf P Q s → ∀ (w : World) (es : Array Event) (x : α) (w' : World) (es' : Array Event), s.runT P w es = (.ok x w', es') → Q x
  | .pure a, h, w, es, x, w', es', hr => by simp only [Sem.runT] at hr; cases hr; exact h
  | .load m a k, h, w, es, x, w', es', hr => by
    unfold Sem.runT at hr
    cases hc : w.cell? a with
    | some v => rw [hc] at hr; exact leaf_run (k v) (h v) _ _ _ _ _ hr
    | none =>
      rw [hc] at hr
      dsimp only at hr
      cases hf : w.farLoad P a (m == .atomic) with
      | ok r => rw [hf] at hr; exact leaf_run (k r.1) (h r.1) _ _ _ _ _ hr
      | error e => rw [hf] at hr; cases hr
  | .store m a v k, h, w, es, x, w', es', hr => by
    have key : (∀ (w : World), (Sem.store m a v k).runT P w es = match w.cell? a with
        | some _ => if w.frozen? a then (.halt (.unsupported (.unsafePointer "a write to bytes that a string shares")) w, es) else k.runT P (w.setCell a v) (es.push ⟨.cell a, true, m == Mode.atomic⟩)
        | none => match w.farStore P a v (m == Mode.atomic) with
          | .ok (w, touched) => k.runT P w (es ++ touched.toArray.map (⟨.cell ·, true, m == Mode.atomic⟩))
          | .error h => (.halt h w, es)) ∨ (∀ (w : World), (Sem.store m a v k).runT P w es = (.halt (.stuck "store: not the value of one cell") w, es)) := by
      cases v <;> first | exact .inr fun _ => rfl | exact .inl fun _ => rfl
    rcases key with key | key
    · rw [key] at hr
      cases hc : w.cell? a with
      | some u =>
        rw [hc] at hr
        dsimp only at hr
        split at hr
        · cases hr
        · exact leaf_run k h _ _ _ _ _ hr
      | none =>
        rw [hc] at hr
        dsimp only at hr
        cases hf : w.farStore P a v (m == .atomic) with
        | ok r => rw [hf] at hr; exact leaf_run k h _ _ _ _ _ hr
        | error e => rw [hf] at hr; cases hr
    · rw [key] at hr; cases hr
  | .new o k, h, w, es, x, w', es', hr => leaf_run (k w.heap.size) (h _) _ es x w' es' hr
  | .shape r k, h, w, es, x, w', es', hr => leaf_run (k (w.shape? r)) (h _) w es x w' es' hr
  | .freeze a n k, h, w, es, x, w', es', hr => leaf_run k h (w.freeze a n) es x w' es' hr
  | .frozen a k, h, w, es, x, w', es', hr => leaf_run (k (w.frozen? a)) (h _) w es x w' es' hr
  | .getObj r k, h, w, es, x, w', es', hr => by
    unfold Sem.runT at hr
    split at hr
    · cases hr
    · exact leaf_run (k _) (h _) _ _ _ _ _ hr
    · cases hr
  | .setObj r o k, h, w, es, x, w', es', hr => by
    unfold Sem.runT at hr
    split at hr
    · cases hr
    · exact leaf_run k h _ _ _ _ _ hr
    · cases hr
  | .choose q k, h, w, es, x, w', es', hr => by
    unfold Sem.runT at hr
    split at hr
    · exact leaf_run (k 0) (h _) _ _ _ _ _ hr
    · exact leaf_run (k _) (h _) _ _ _ _ _ hr
  | .sys c k, h, w, es, x, w', es', hr => leaf_run (k (w.sys c).1) (h _) (w.sys c).2 _ x w' es' hr
  | .program k, h, w, es, x, w', es', hr => leaf_run (k P) h w es x w' es' hr
  | .mark m k, h, w, es, x, w', es', hr => leaf_run k h w _ x w' es' hr
  | .halt _, _, _, _, _, _, _, hr => by simp only [Sem.runT] at hr; cases hr

theorem plain_listM {f : α → Sem β} (h : ∀ a, Plain P (f a)) : ∀ l : List α, Plain P (l.mapM f)
  | [] => trivial
  | a :: l => by
    rw [List.mapM_cons]
    exact plain_bind (h a) fun b => plain_bind (plain_listM h l) fun bs => plain_pure _
theorem plain_mapM {f : α → Sem β} (h : ∀ a, Plain P (f a)) (l : Array α) : Plain P (l.mapM f) := by
  rw [Array.mapM_eq_mapM_toList]
  exact plain_map (plain_listM h _)
end

def isInt (P : Program) (t : TypeId) : Bool := match P.underlying t with | some (.int _) => true | _ => false
theorem isInt_spec {P : Program} {t : TypeId} (h : isInt P t = true) : ∃ k, P.underlying t = some (.int k) := by
  unfold isInt at h
  split at h
  · exact ⟨_, by assumption⟩
  · cases h
/-- Numbers, truths, words. -/
def isFlat (P : Program) (t : TypeId) : Bool := match P.underlying t with | some (.int _) => true | some .string => true | some .bool => true | _ => false
theorem isFlat_spec {P : Program} {t : TypeId} (h : isFlat P t = true) : (∃ k, P.underlying t = some (.int k)) ∨ P.underlying t = some .string ∨ P.underlying t = some .bool := by
  unfold isFlat at h
  split at h
  · exact .inl ⟨_, by assumption⟩
  · exact .inr (.inl (by assumption))
  · exact .inr (.inr (by assumption))
  · cases h
/-- Bytes, made a word. -/
def isBytes (P : Program) (s d : TypeId) : Bool := match P.underlying s, P.underlying d with
  | some (.slice e), some .string => (match P.underlying e with | some (.int .u8) => true | _ => false)
  | _, _ => false
theorem isBytes_spec {P : Program} {s d : TypeId} (h : isBytes P s d = true) : ∃ e, P.underlying s = some (.slice e) ∧ P.underlying d = some .string ∧ P.underlying e = some (.int .u8) := by
  unfold isBytes at h
  split at h
  · rename_i e h1 h2
    split at h
    · exact ⟨e, h1, h2, by assumption⟩
    · cases h
  · cases h
def okBuiltin : Builtin → Bool
  | .len | .cap | .append | .copy | .min | .max => true
  | _ => false
/-- How many values a function is called with. -/
def arity (P : Program) (f : FuncId) : Nat := match P.funcs[f]? with
  | some fn => fn.params.size + fn.nfree
  | none => 0
/-- Slots that hold a function that is known, with so many values bound in it. -/
abbrev Clos := List (Nat × FuncId × Nat)
def okSrc (S : Clos) (x : FuncId × Nat) : Op → Bool
  | .makeFunc (.func g) first cap => g == x.1 && first.size + cap.size == x.2
  | .move (.tmp j) => S.contains (j, x)
  | .assign (.tmp j) => S.contains (j, x)
  | _ => false
def okDst (S : Clos) (o : Oper) : Bool := S.all fun x => if o.dst == some x.1 then okSrc S x.2 o.op else true
/-- Every method of this name may be called. -/
def okMeth (P : Program) (F : FuncId → Bool) (n : Nat) (name : String) : Bool := P.types.all fun i => i.methods.all fun m => m.name != name || match m.func with
  | none => true
  | some (f, _) => F f && decide (n ≤ arity P f)
/-- An operation that a lone run may be made of; F: the functions that may be called; S: the slots that hold functions that are known. -/
def okOpS (P : Program) (F : FuncId → Bool) (S : Clos) (o : Oper) : Bool :=
  okDst S o && match o.op with
  | .move _ | .assign _ | .pick .. | .alloc _ | .box .. | .build .. | .buildSlice .. | .load .. | .store .. | .nilCheck _ | .unOp .. | .makeSlice .. | .makeFunc .. | .slice .. | .fieldAddr .. | .field .. | .indexAddr .. | .index .. | .extract .. | .binOp .. | .typeAssert .. | .makeInterface .. | .panic _ => true
  | .convert s d _ => (isInt P s && isInt P d) || isBytes P s d
  | .call c => match c.callee with
    | .builtin b => okBuiltin b
    | .value (.func f) => F f && decide (c.args.size ≤ arity P f)
    | .value (.tmp j) => S.any (fun x => x.1 == j) && S.all fun x => if x.1 == j then F x.2.1 && decide (x.2.2 + c.args.size ≤ arity P x.2.1) else true
    | .invoke _ name => okMeth P F (1 + c.args.size) name
    | _ => false
  | _ => false
def okCodeS (P : Program) (F : FuncId → Bool) (S : Clos) : Code → Bool
  | .skip | .ret | .exit _ => true
  | .seq a b => okCodeS P F S a && okCodeS P F S b
  | .cond _ a b => okCodeS P F S a && okCodeS P F S b
  | .block _ c => okCodeS P F S c
  | .loop c => okCodeS P F S c
  | .region _ ops _ => ops.all (okOpS P F S)
  | _ => false
abbrev okOp (P : Program) (F : FuncId → Bool) (o : Oper) : Bool := okOpS P F [] o
abbrev okCode (P : Program) (F : FuncId → Bool) (c : Code) : Bool := okCodeS P F [] c
/-- A function of such code. -/
def GoodBody (P : Program) (F : FuncId → Bool) (f : FuncId) : Prop := ∃ fn c S, P.funcs[f]? = some fn ∧ (fn.name == "runtime.NumGoroutine") = false ∧ fn.body = some c ∧ okCodeS P F S c = true ∧ ∀ x ∈ S, arity P f ≤ x.1
/-- A function without a body, of whose doing the same is known. -/
def GoodExt (P : Program) (f : FuncId) : Prop := ∃ fn e, P.funcs[f]? = some fn ∧ (fn.name == "runtime.NumGoroutine") = false ∧ fn.body = none ∧ Extern.findNext fn = none ∧ Extern.find fn = some e ∧ ∀ as, Okay P (e as)
/-- The functions that may be called are there, and of such code. -/
def GoodF (P : Program) (F : FuncId → Bool) : Prop := ∀ f, F f = true → GoodBody P F f ∨ GoodExt P f
def hasBody (P : Program) (f : FuncId) : Bool := (P.funcs[f]?).any (·.body.isSome)
theorem GoodF.body {P : Program} {F : FuncId → Bool} (h : GoodF P F) {f : FuncId} (hf : F f = true) (hb : hasBody P f = true) : GoodBody P F f := by
  rcases h f hf with h1 | ⟨fn, e, h1, _, h3, _⟩
  · exact h1
  · unfold hasBody at hb
    rw [h1] at hb
    simp [h3] at hb

/-- What an operation of such code yields. -/
def Yld (P : Program) (F : FuncId → Bool) (x : Next) : Prop := (∃ v, x = .value v) ∨ x = .skip ∨ ∃ f as, GoodBody P F f ∧ as.size ≤ arity P f ∧ x = .enter f as

section
variable {P : Program} {F : FuncId → Bool}
theorem okay_callFunc (hF : GoodF P F) {f : FuncId} (hf : F f = true) {as : Array Value} (ha : as.size ≤ arity P f) : Okay P (callFunc f as) ∧ Leaf P (Yld P F) (callFunc f as) := by
  rcases hF f hf with ⟨fn, c, S, h1, h2, h3, h4, h5⟩ | ⟨fn, x, h1, h2, h3, h4, h5, h6⟩
  · have hne : fn.body.isNone = false := by rw [h3]; rfl
    have key : ∀ (Q : Sem Next → Prop), Q (pure (.enter f as)) → Q ((fun p : Program => match p.funcs[f]? with
      | none => stuck "call: no such function"
      | some fn => if fn.name == "runtime.NumGoroutine" then pure .numGoroutine
        else if fn.body.isNone then (do
          mark (.extern f)
          if let some e := Extern.findNext fn then return ← e as
          match Extern.find fn with
          | some e => pure (.value (← e as))
          | none =>
            if fn.name.endsWith ".init" && !fn.name.startsWith "(" && !fn.name.startsWith "gosem." then pure (.value (.tuple #[]))
            else unsupported (.extern fn.name))
        else pure (.enter f as) : Program → Sem Next) P) := fun Q hQ => by
      dsimp only
      rw [h1]
      dsimp only
      rw [h2, hne]
      exact hQ
    refine ⟨Okay.of (key (Plain P) (plain_pure _)), key (Leaf P (Yld P F)) (.inr (.inr ⟨f, as, ⟨fn, c, S, h1, h2, h3, h4, h5⟩, ha, rfl⟩))⟩
  · have hne : fn.body.isNone = true := by rw [h3]; rfl
    have key : ∀ (Q : Sem Next → Prop), Q (mark (.extern f) >>= fun _ => (do pure (.value (← x as)))) → Q ((fun p : Program => match p.funcs[f]? with
      | none => stuck "call: no such function"
      | some fn => if fn.name == "runtime.NumGoroutine" then pure .numGoroutine
        else if fn.body.isNone then (do
          mark (.extern f)
          if let some e := Extern.findNext fn then return ← e as
          match Extern.find fn with
          | some e => pure (.value (← e as))
          | none =>
            if fn.name.endsWith ".init" && !fn.name.startsWith "(" && !fn.name.startsWith "gosem." then pure (.value (.tuple #[]))
            else unsupported (.extern fn.name))
        else pure (.enter f as) : Program → Sem Next) P) := fun Q hQ => by
      dsimp only
      rw [h1]
      dsimp only
      rw [h2, hne, h4, h5]
      exact hQ
    have hm : Okay P (mark (.extern f)) := Okay.of ⟨.inr ⟨f, rfl⟩, trivial⟩
    have h8 : Okay P (mark (.extern f) >>= fun _ => (do pure (Next.value (← x as)) : Sem Next)) := Okay.bind hm fun _ => Okay.bind (h6 as) fun _ => okay_pure _
    have h9 : Leaf P (Yld P F) (mark (.extern f) >>= fun _ => (do pure (Next.value (← x as)) : Sem Next)) := leaf_bind (mark (.extern f)) _ fun _ => leaf_bind (x as) _ fun v => .inl ⟨v, rfl⟩
    exact ⟨okay_prog (key (fun s => Okay P s) h8), key (Leaf P (Yld P F)) h9⟩
end
attribute [local irreducible] Plain
section
variable {P : Program} {F : FuncId → Bool}
theorem plain_build (t : TypeId) (ps : Array (Nat × Value)) : Plain P (Instr.build t ps) := by
  unfold Instr.build
  (repeat' (first | with_reducible assumption | with_reducible exact plain_pure _ | with_reducible exact plain_pure' _ | with_reducible exact plain_stuck _ | ((with_reducible refine plain_uns ?_); exact trivial) | with_reducible exact plain_goPanic _ | with_reducible exact plain_load _ | with_reducible exact plain_store _ _ | with_reducible exact plain_frozen _ | with_reducible exact plain_choose _ | with_reducible exact plain_program | with_reducible exact plain_room _ | with_reducible exact plain_new trivial | with_reducible exact plain_zeroValue _ | with_reducible exact plain_underlying _ | with_reducible exact plain_sizeOf _ | with_reducible exact plain_mapM (fun _ => plain_bind (plain_sizeOf _) fun _ => plain_pure _) _ | ((with_reducible refine plain_getObj ?_ ?_); (focus (exact ghost_both (fun _ _ _ => rfl) (fun _ _ => rfl))); (intro _)) | with_reducible (refine plain_bind ?_ (fun _ => ?_)) | with_reducible (refine plain_map ?_) | with_reducible (refine plain_ite ?_ ?_) | split | (dsimp only)))
theorem plain_conv {s d : TypeId} {k k' : IntKind} (hs : P.underlying s = some (.int k)) (hd : P.underlying d = some (.int k')) (x : Value) : Plain P (convert s d x) := by
  unfold convert
  refine plain_under hs (plain_under hd ?_)
  have h1 : ∀ k n, Plain P (Conv.intToInt k n) := fun k n => by unfold Conv.intToInt; (repeat' (first | with_reducible assumption | with_reducible exact plain_pure _ | with_reducible exact plain_pure' _ | with_reducible exact plain_stuck _ | ((with_reducible refine plain_uns ?_); exact trivial) | with_reducible exact plain_goPanic _ | with_reducible exact plain_load _ | with_reducible exact plain_store _ _ | with_reducible exact plain_frozen _ | with_reducible exact plain_choose _ | with_reducible exact plain_program | with_reducible exact plain_room _ | with_reducible exact plain_new trivial | ((with_reducible refine plain_getObj ?_ ?_); (focus (exact ghost_both (fun _ _ _ => rfl) (fun _ _ => rfl))); (intro _)) | with_reducible (refine plain_bind ?_ (fun _ => ?_)) | with_reducible (refine plain_map ?_) | with_reducible (refine plain_ite ?_ ?_) | split | (dsimp only)))
  have h2 : ∀ a b k, Plain P (Conv.floatToInt a b k) := fun a b k => by unfold Conv.floatToInt; (repeat' (first | with_reducible assumption | with_reducible exact plain_pure _ | with_reducible exact plain_pure' _ | with_reducible exact plain_stuck _ | ((with_reducible refine plain_uns ?_); exact trivial) | with_reducible exact plain_goPanic _ | with_reducible exact plain_load _ | with_reducible exact plain_store _ _ | with_reducible exact plain_frozen _ | with_reducible exact plain_choose _ | with_reducible exact plain_program | with_reducible exact plain_room _ | with_reducible exact plain_new trivial | ((with_reducible refine plain_getObj ?_ ?_); (focus (exact ghost_both (fun _ _ _ => rfl) (fun _ _ => rfl))); (intro _)) | with_reducible (refine plain_bind ?_ (fun _ => ?_)) | with_reducible (refine plain_map ?_) | with_reducible (refine plain_ite ?_ ?_) | split | (dsimp only)))
  split <;> first | contradiction | (repeat' (first | with_reducible assumption | with_reducible exact plain_pure _ | with_reducible exact plain_pure' _ | with_reducible exact plain_stuck _ | ((with_reducible refine plain_uns ?_); exact trivial) | with_reducible exact plain_goPanic _ | with_reducible exact plain_load _ | with_reducible exact plain_store _ _ | with_reducible exact plain_frozen _ | with_reducible exact plain_choose _ | with_reducible exact plain_program | with_reducible exact plain_room _ | with_reducible exact plain_new trivial | with_reducible exact h1 _ _ | with_reducible exact h2 _ _ _ | ((with_reducible refine plain_getObj ?_ ?_); (focus (exact ghost_both (fun _ _ _ => rfl) (fun _ _ => rfl))); (intro _)) | with_reducible (refine plain_bind ?_ (fun _ => ?_)) | with_reducible (refine plain_map ?_) | with_reducible (refine plain_ite ?_ ?_) | split | (dsimp only)))
theorem plain_forIn {γ σ : Type} {f : γ → σ → Sem (ForInStep σ)} (h : ∀ a s, Plain P (f a s)) : ∀ (l : List γ) (s : σ), Plain P (forIn l s f)
  | [], s => by rw [List.forIn_nil]; exact plain_pure _
  | a :: l, s => by
    rw [List.forIn_cons]
    refine plain_bind (h a s) fun r => ?_
    cases r with
    | done b => exact plain_pure _
    | yield b => exact plain_forIn h l b
theorem plain_bytesTo (x : Value) : Plain P (Conv.bytesToString x) := by
  unfold Conv.bytesToString
  split
  · exact plain_pure _
  · refine plain_bind (plain_loadCells _ _) fun cs => plain_bind ?_ fun _ => plain_pure _
    rw [← Array.forIn_toList]
    refine plain_forIn (fun c s => ?_) _ _
    (repeat' (first | with_reducible assumption | with_reducible exact plain_pure _ | with_reducible exact plain_pure' _ | with_reducible exact plain_stuck _ | ((with_reducible refine plain_uns ?_); exact trivial) | with_reducible exact plain_goPanic _ | with_reducible exact plain_load _ | with_reducible exact plain_store _ _ | with_reducible exact plain_frozen _ | with_reducible exact plain_choose _ | with_reducible exact plain_program | with_reducible exact plain_room _ | with_reducible exact plain_new trivial | ((with_reducible refine plain_getObj ?_ ?_); (focus (exact ghost_both (fun _ _ _ => rfl) (fun _ _ => rfl))); (intro _)) | with_reducible (refine plain_bind ?_ (fun _ => ?_)) | with_reducible (refine plain_map ?_) | with_reducible (refine plain_ite ?_ ?_) | split | (dsimp only)))
  · (repeat' (first | with_reducible assumption | with_reducible exact plain_pure _ | with_reducible exact plain_pure' _ | with_reducible exact plain_stuck _ | ((with_reducible refine plain_uns ?_); exact trivial) | with_reducible exact plain_goPanic _ | with_reducible exact plain_load _ | with_reducible exact plain_store _ _ | with_reducible exact plain_frozen _ | with_reducible exact plain_choose _ | with_reducible exact plain_program | with_reducible exact plain_room _ | with_reducible exact plain_new trivial | ((with_reducible refine plain_getObj ?_ ?_); (focus (exact ghost_both (fun _ _ _ => rfl) (fun _ _ => rfl))); (intro _)) | with_reducible (refine plain_bind ?_ (fun _ => ?_)) | with_reducible (refine plain_map ?_) | with_reducible (refine plain_ite ?_ ?_) | split | (dsimp only)))
theorem plain_convB {s d e : TypeId} (hs : P.underlying s = some (.slice e)) (hd : P.underlying d = some .string) (he : P.underlying e = some (.int .u8)) (x : Value) : Plain P (convert s d x) := by
  unfold convert
  refine plain_under hs (plain_under hd ?_)
  have h1 : ∀ n, Plain P (Conv.intToString n) := fun n => by unfold Conv.intToString; (repeat' (first | with_reducible assumption | with_reducible exact plain_pure _ | with_reducible exact plain_pure' _ | with_reducible exact plain_stuck _ | ((with_reducible refine plain_uns ?_); exact trivial) | with_reducible exact plain_goPanic _ | with_reducible exact plain_load _ | with_reducible exact plain_store _ _ | with_reducible exact plain_frozen _ | with_reducible exact plain_choose _ | with_reducible exact plain_program | with_reducible exact plain_room _ | with_reducible exact plain_new trivial | ((with_reducible refine plain_getObj ?_ ?_); (focus (exact ghost_both (fun _ _ _ => rfl) (fun _ _ => rfl))); (intro _)) | with_reducible (refine plain_bind ?_ (fun _ => ?_)) | with_reducible (refine plain_map ?_) | with_reducible (refine plain_ite ?_ ?_) | split | (dsimp only)))
  have h2 : Plain P (underlying e >>= fun u => match u with | .int .u8 => Conv.bytesToString x | .int .i32 => Conv.runesToString x | _ => stuck "Convert: a slice of what to string?") := plain_under he (plain_bytesTo x)
  split
  all_goals first
    | contradiction
    | exact plain_pure _
    | exact h1 _
    | (rename_i hh _ _ _; cases hh; exact h2)
    | trivial
    | (repeat' (first | with_reducible assumption | with_reducible exact plain_pure _ | with_reducible exact plain_pure' _ | with_reducible exact plain_stuck _ | ((with_reducible refine plain_uns ?_); exact trivial) | with_reducible exact plain_goPanic _ | with_reducible exact plain_load _ | with_reducible exact plain_store _ _ | with_reducible exact plain_frozen _ | with_reducible exact plain_choose _ | with_reducible exact plain_program | with_reducible exact plain_room _ | with_reducible exact plain_new trivial | ((with_reducible refine plain_getObj ?_ ?_); (focus (exact ghost_both (fun _ _ _ => rfl) (fun _ _ => rfl))); (intro _)) | with_reducible (refine plain_bind ?_ (fun _ => ?_)) | with_reducible (refine plain_map ?_) | with_reducible (refine plain_ite ?_ ?_) | split | (dsimp only)))
theorem plain_min2 (x y : Value) : Plain P (Builtin.min2 x y) := by
  unfold Builtin.min2
  split <;> (repeat' (first | with_reducible assumption | with_reducible exact plain_pure _ | with_reducible exact plain_pure' _ | with_reducible exact plain_stuck _ | ((with_reducible refine plain_uns ?_); exact trivial) | with_reducible exact plain_goPanic _ | with_reducible exact plain_load _ | with_reducible exact plain_store _ _ | with_reducible exact plain_frozen _ | with_reducible exact plain_choose _ | with_reducible exact plain_program | with_reducible exact plain_room _ | with_reducible exact plain_new trivial | with_reducible exact plain_stringOp _ _ _ | with_reducible exact plain_asBool _ | ((with_reducible refine plain_getObj ?_ ?_); (focus (exact ghost_both (fun _ _ _ => rfl) (fun _ _ => rfl))); (intro _)) | with_reducible (refine plain_bind ?_ (fun _ => ?_)) | with_reducible (refine plain_map ?_) | with_reducible (refine plain_ite ?_ ?_) | split | (dsimp only)))
theorem plain_foldMin : ∀ (l : List Value) (x : Value), Plain P (l.foldlM Builtin.min2 x)
  | [], x => by rw [List.foldlM_nil]; exact plain_pure _
  | y :: l, x => by
    rw [List.foldlM_cons]
    exact plain_bind (plain_min2 x y) fun r => plain_foldMin l r
theorem plain_min (ts : Array TypeId) (t : TypeId) (as : Array Value) : Plain P (Builtin.min_ ts t as) := by
  unfold Builtin.min_
  split
  · (repeat' (first | with_reducible assumption | with_reducible exact plain_pure _ | with_reducible exact plain_pure' _ | with_reducible exact plain_stuck _ | ((with_reducible refine plain_uns ?_); exact trivial) | with_reducible exact plain_goPanic _ | with_reducible exact plain_load _ | with_reducible exact plain_store _ _ | with_reducible exact plain_frozen _ | with_reducible exact plain_choose _ | with_reducible exact plain_program | with_reducible exact plain_room _ | with_reducible exact plain_new trivial | ((with_reducible refine plain_getObj ?_ ?_); (focus (exact ghost_both (fun _ _ _ => rfl) (fun _ _ => rfl))); (intro _)) | with_reducible (refine plain_bind ?_ (fun _ => ?_)) | with_reducible (refine plain_map ?_) | with_reducible (refine plain_ite ?_ ?_) | split | (dsimp only)))
  · exact plain_foldMin _ _
theorem plain_followBlind : ∀ (path : List FieldStep) (t : TypeId) (x : Option Value), Plain P (followBlind path t x)
  | [], _, _ => plain_pure _
  | s :: rest, _, _ => by
    unfold followBlind
    have ih := plain_followBlind rest
    (repeat' (first | with_reducible assumption | with_reducible exact plain_pure _ | with_reducible exact plain_pure' _ | with_reducible exact plain_stuck _ | ((with_reducible refine plain_uns ?_); exact trivial) | with_reducible exact plain_goPanic _ | with_reducible exact plain_load _ | with_reducible exact plain_store _ _ | with_reducible exact plain_frozen _ | with_reducible exact plain_choose _ | with_reducible exact plain_program | with_reducible exact plain_room _ | with_reducible exact plain_new trivial | with_reducible exact plain_underlying _ | with_reducible exact plain_part _ _ _ | with_reducible exact ih _ _ | ((with_reducible refine plain_getObj ?_ ?_); (focus (exact ghost_both (fun _ _ _ => rfl) (fun _ _ => rfl))); (intro _)) | with_reducible (refine plain_bind ?_ (fun _ => ?_)) | with_reducible (refine plain_map ?_) | with_reducible (refine plain_ite ?_ ?_) | split | (dsimp only)))
theorem plain_nilAhead : ∀ (n : Nat) (t : TypeId) (v : Value) (name : String), Plain P (nilAhead n t v name)
  | 0, _, _, _ => plain_pure _
  | n + 1, t, v, name => by
    unfold nilAhead
    have ih := plain_nilAhead n
    (repeat' (first | with_reducible assumption | with_reducible exact plain_pure _ | with_reducible exact plain_pure' _ | with_reducible exact plain_stuck _ | ((with_reducible refine plain_uns ?_); exact trivial) | with_reducible exact plain_goPanic _ | with_reducible exact plain_load _ | with_reducible exact plain_store _ _ | with_reducible exact plain_frozen _ | with_reducible exact plain_choose _ | with_reducible exact plain_program | with_reducible exact plain_room _ | with_reducible exact plain_new trivial | with_reducible exact plain_typeInfo _ | with_reducible exact plain_underlying _ | with_reducible exact plain_followBlind _ _ _ | with_reducible exact ih _ _ _ | ((with_reducible refine plain_getObj ?_ ?_); (focus (exact ghost_both (fun _ _ _ => rfl) (fun _ _ => rfl))); (intro _)) | with_reducible (refine plain_bind ?_ (fun _ => ?_)) | with_reducible (refine plain_map ?_) | with_reducible (refine plain_ite ?_ ?_) | split | (dsimp only)))
theorem leaf_nil {Q : Next → Prop} : Leaf P Q (runtimePanic .nilDeref : Sem Next) := by
  unfold runtimePanic
  exact leaf_bind program _ fun p => trivial
theorem leaf_val {s : Sem Value} : Leaf P (Yld P F) (do pure (.value (← s))) := leaf_bind s _ fun a => .inl ⟨a, rfl⟩
theorem leaf_unit {s : Sem Unit} : Leaf P (Yld P F) (do s; pure .skip) := leaf_bind s _ fun _ => .inr (.inl rfl)

theorem made_methods (info : TypeId → Option TypeInfo) (d : TypeDesc) (i : TypeInfo) (h : Made.reckon info d = some i) : i.methods = #[] := by
  have hs : ∀ fs, Made.reckonStruct info fs = some i → i.methods = #[] := fun fs h => by
    unfold Made.reckonStruct at h
    simp only [Option.bind_eq_bind, Option.bind_eq_some_iff, Option.pure_def] at h
    obtain ⟨r, _, h⟩ := h
    split at h <;> (cases h; rfl)
  unfold Made.reckon at h
  split at h
  case h_7 => exact hs _ h
  case h_1 =>
    simp only [Option.bind_eq_bind, Option.bind_eq_some_iff, Option.pure_def] at h
    obtain ⟨r, _, h⟩ := h
    split at h
    · cases h
    · split at h
      · cases h
      · obtain ⟨_, _, h⟩ := Option.bind_eq_some_iff.1 h
        cases h
        rfl
    · obtain ⟨_, _, h⟩ := Option.bind_eq_some_iff.1 h
      cases h
      rfl
  all_goals first
    | cases h
    | (simp only [Option.bind_eq_bind, Option.bind_eq_some_iff, Option.pure_def] at h
       repeat (obtain ⟨_, _, h⟩ := h)
       first | rfl | (cases h; rfl))
theorem info_methods {t : TypeId} {i : TypeInfo} (h : P.info? t = some i) : i ∈ P.types ∨ i.methods = #[] := by
  have key : ∀ n, Made.infoAt P.toTables n t = some i → i ∈ P.types ∨ i.methods = #[] := fun n hn => by
    cases n with
    | zero => cases hn
    | succ n =>
      unfold Made.infoAt at hn
      split at hn
      · exact .inl (Array.mem_of_getElem? hn)
      · obtain ⟨d, _, hd⟩ := Option.bind_eq_some_iff.1 hn
        exact .inr (made_methods _ _ _ hd)
  unfold Tables.info? at h
  split at h
  · exact .inl (Array.mem_of_getElem? h)
  · exact key _ h
theorem Okay.bind2 {α β : Type} {R : α → Prop} {s : Sem α} {f : α → Sem β} (h : Okay P s) (hl : Leaf P R s) (h' : ∀ a, R a → Okay P (f a)) : Okay P (s >>= f) := by
  have e : ∀ w es, (s >>= f).runT P w es = match s.runT P w es with
      | (.ok a w', es') => (f a).runT P w' es'
      | (.halt x w', es') => (.halt x w', es') := fun w es => Go.Sem.runT_bind' P s f w es
  have key : ∀ a v es v1 es1, s.runT P v es = (.ok a v1, es1) → Okay P (f a) := fun a v es v1 es1 hr => h' a (leaf_run s hl v es a v1 es1 hr)
  refine ⟨fun w v es x v' es' hs hr => ?_, fun v es x v' es' hn hr => ?_, fun w v es x v' es' hs hr => ?_⟩
  · rw [e] at hr
    cases hr1 : s.runT P v es with
    | mk r es1 =>
      rw [hr1] at hr
      cases r with
      | halt y v1 => cases hr
      | ok a v1 =>
        obtain ⟨w1, h1, h2, h3, h4⟩ := h.sim w v es a v1 es1 hs hr1
        obtain ⟨w2, g1, g2, g3, g4⟩ := (key _ _ _ _ _ hr1).sim w1 v1 es1 x v' es' h2 hr
        refine ⟨w2, by rw [e, h1]; exact g1, g2, by omega, fun ev hev => ?_⟩
        rcases g4 ev hev with g5 | g5
        · rcases h4 ev g5 with g6 | g6
          · exact .inl g6
          · exact .inr (g6.grow (by rw [h2.size, g2.size]; exact g3))
        · exact .inr g5
  · rw [e] at hr
    cases hr1 : s.runT P v es with
    | mk r es1 =>
      rw [hr1] at hr
      cases r with
      | halt y v1 => cases hr
      | ok a v1 =>
        obtain ⟨h1, h2, h3⟩ := h.tape v es a v1 es1 hn hr1
        obtain ⟨w1, _, hs1, _, _⟩ := h.sim v v es a v1 es1 (Sim.self hn) hr1
        obtain ⟨g1, g2, g3⟩ := (key _ _ _ _ _ hr1).tape v1 es1 x v' es' hs1.nv hr
        refine ⟨g1.trans h1, by omega, fun τ hτ => ?_⟩
        rw [e, h3 τ fun p hp1 hp2 => hτ p hp1 (by omega)]
        exact g3 τ fun p hp1 hp2 => by rw [h1]; exact hτ p (by omega) hp2
  · rw [e] at hr
    cases hr1 : s.runT P v es with
    | mk r es1 =>
      rw [hr1] at hr
      cases r with
      | halt y v1 =>
        cases hr
        exact h.halts w v es x v' es' hs hr1
      | ok a v1 =>
        obtain ⟨w1, _, h2, _, _⟩ := h.sim w v es a v1 es1 hs hr1
        exact (key _ _ _ _ _ hr1).halts w1 v1 es1 x v' es' h2 hr
theorem leaf_typeInfo (t : TypeId) : Leaf P (fun i => P.info? t = some i) (typeInfo t) := by
  unfold typeInfo
  show Leaf P (fun i => P.info? t = some i) (match P.info? t with | some i => pure i | none => _)
  cases h : P.info? t with
  | some i => exact rfl
  | none => trivial
theorem leaf_method {n : Nat} {name : String} (h : okMeth P F n name = true) : ∀ (fuel : Nat) (t : TypeId) (v : Value), Leaf P (fun r => F r.1 = true ∧ n ≤ arity P r.1) (method fuel t v name)
  | 0, _, _ => trivial
  | fuel + 1, t, v => by
    have ih := leaf_method h fuel
    unfold method
    refine leaf_bind2 (typeInfo t) _ (leaf_typeInfo t) fun i hi => ?_
    cases hm : i.methods.find? (·.name == name) with
    | none => trivial
    | some m =>
      have h1 := Array.mem_of_find?_eq_some hm
      have h2 : (m.name == name) = true := by simpa using Array.find?_some hm
      refine leaf_bind (follow _ _ _) _ fun r => ?_
      obtain ⟨xt, x⟩ := r
      dsimp only
      cases hf : m.func with
      | none =>
        refine leaf_bind (x.get xt) _ fun u => ?_
        cases u <;> first
          | exact ih _ _
          | trivial
          | (unfold runtimePanic; exact leaf_bind program _ fun p => trivial)
      | some q =>
        obtain ⟨f, pr⟩ := q
        refine leaf_bind (receiverAt _ _ _ _) _ fun u => ?_
        rcases info_methods hi with h3 | h3
        · have h4 := Array.all_eq_true_iff_forall_mem.1 h i h3
          have h5 := Array.all_eq_true_iff_forall_mem.1 h4 m h1
          rw [hf] at h5
          simp only [bne, h2, Bool.not_true, Bool.false_or, Bool.and_eq_true, decide_eq_true_eq] at h5
          exact h5
        · rw [h3] at h1
          simp at h1

theorem halt_panic (x : Value) : Okay P (Instr.panic x) := by
  have key : ∀ (v : World) (es : Array Event), (∀ (b : Nat) (o : Obj), v.heap[b]? = some o → NoView o) → ∃ h v' es', (Instr.panic x).runT P v es = (.halt h v', es') ∧ HaltOk h := fun v es hn => by
    cases x <;> first
      | exact ⟨_, _, _, rfl, trivial⟩
      | skip
    have e2 : ∃ (n : Bool) (es2 : Array Event), (Instr.panic .nilIface).runT P v es = (if n = true then goPanic .nilIface else runtimePanic .panicNil : Sem Value).runT P v es2 := ⟨_, _, rfl⟩
    obtain ⟨n, es2, e2⟩ := e2
    rw [e2]
    cases n with
    | true => exact ⟨_, _, _, rfl, trivial⟩
    | false =>
      simp only [Bool.false_eq_true, if_false]
      have hd : Doomed P (runtimePanic .panicNil : Sem Value) := by
        unfold runtimePanic
        exact Doomed.late program _ fun p => Doomed.late (elemOf _) _ fun _ => Doomed.late (newVar _ _) _ fun _ => trivial
      obtain ⟨h, v', es', h1⟩ := doomed_halts _ hd v es2
      exact ⟨h, v', es', h1, plain_halts _ v v es2 h v' es' (plain_runtimePanic _) (Sim.self hn) h1⟩
  refine ⟨fun w v es x v' es' hs hr => ?_, fun v es x v' es' hn hr => ?_, fun w v es x v' es' hs hr => ?_⟩
  · obtain ⟨h, v1, es1, h1, _⟩ := key v es hs.nv
    rw [h1] at hr
    cases hr
  · obtain ⟨h, v1, es1, h1, _⟩ := key v es hn
    rw [h1] at hr
    cases hr
  · obtain ⟨h, v1, es1, h1, h2⟩ := key v es hs.nv
    rw [h1] at hr
    cases hr
    exact h2

/-- What the slots hold. -/
def InvS (S : Clos) (tmps : Array Value) : Prop := ∀ x ∈ S, tmps.getD x.1 undef = undef ∨ ∃ fs cs, tmps.getD x.1 undef = .func (.func x.2.1) fs cs ∧ fs.size + cs.size = x.2.2

theorem exec_ok (hF : GoodF P F) {S : Clos} {tmps : Array Value} {ρ : Operand → Value} (hρ : ∀ f, ρ (.func f) = .func (.func f) #[] #[]) (hτ : ∀ j, ρ (.tmp j) = tmps.getD j undef) (hS : InvS S tmps) {o : Oper} (ho : okOpS P F S o = true) :
    Okay P (execOp ρ o) ∧ Leaf P (Yld P F) (execOp ρ o) := by
  obtain ⟨dst, op, ty, pos, after, guard⟩ := o
  have V : ∀ {s : Sem Value}, Plain P s → Okay P (do pure (Next.value (← s)) : Sem Next) := fun h => Okay.of (plain_bind h fun _ => plain_pure _)
  have VO : ∀ {s : Sem Value}, Okay P s → Okay P (do pure (Next.value (← s)) : Sem Next) := fun h => Okay.bind h fun _ => okay_pure _
  have U : ∀ {s : Sem Unit}, Plain P s → Okay P (do s; pure Next.skip : Sem Next) := fun h => Okay.of (plain_bind h fun _ => plain_pure _)
  unfold okOpS at ho
  rw [Bool.and_eq_true] at ho
  cases op
  case move => exact ⟨okay_pure _, .inl ⟨_, rfl⟩⟩
  case assign => exact ⟨okay_pure _, .inl ⟨_, rfl⟩⟩
  case pick c a b => exact ⟨Okay.of (plain_bind (plain_asBool _) fun _ => plain_pure _), leaf_bind (asBool _) _ fun _ => .inl ⟨_, rfl⟩⟩
  case alloc => exact ⟨V (plain_alloc _ _ _), leaf_val⟩
  case box => exact ⟨V (plain_box _ _), leaf_val⟩
  case build => exact ⟨V (plain_build _ _), leaf_val⟩
  case buildSlice => exact ⟨V (plain_buildSlice _ _ _), leaf_val⟩
  case load => exact ⟨V (plain_loadAt _ _), leaf_val⟩
  case store => exact ⟨U (plain_storeAt _ _ _), leaf_unit⟩
  case nilCheck x =>
    have e : execOp ρ ⟨dst, .nilCheck x, ty, pos, after, guard⟩ = (match ρ x with
      | .pointer none | .nilIface | .nilFunc => runtimePanic .nilDeref
      | .func (.method name) first captured =>
        match (first[0]? : Option Value) with
        | some .nilIface => runtimePanic .nilDeref
        | some (.iface t w) => do
          if (← nilAhead ((← program).types.size + Made.depth) t w name) != some false then
            unsupported (.noEntry "op/nilCheck.the method's receiver behind this interface value is a nil pointer, or cannot be seen to be none, and the arguments act or may panic (ledger 612)")
          pure (.value (.func (.method name) first captured))
        | _ => pure (.value (.func (.method name) first captured))
      | x => pure (.value x)) := rfl
    rw [e]
    have np : Okay P (runtimePanic .nilDeref : Sem Next) := Okay.of (plain_runtimePanic _)
    have nl : Leaf P (Yld P F) (runtimePanic .nilDeref : Sem Next) := leaf_nil
    split
    · exact ⟨np, nl⟩
    · exact ⟨np, nl⟩
    · exact ⟨np, nl⟩
    · split
      · exact ⟨np, nl⟩
      · constructor
        · refine Okay.of ?_
          (repeat' (first | with_reducible assumption | with_reducible exact plain_pure _ | with_reducible exact plain_pure' _ | with_reducible exact plain_stuck _ | ((with_reducible refine plain_uns ?_); exact trivial) | with_reducible exact plain_goPanic _ | with_reducible exact plain_load _ | with_reducible exact plain_store _ _ | with_reducible exact plain_frozen _ | with_reducible exact plain_choose _ | with_reducible exact plain_program | with_reducible exact plain_room _ | with_reducible exact plain_new trivial | with_reducible exact plain_nilAhead _ _ _ _ | ((with_reducible refine plain_getObj ?_ ?_); (focus (exact ghost_both (fun _ _ _ => rfl) (fun _ _ => rfl))); (intro _)) | with_reducible (refine plain_bind ?_ (fun _ => ?_)) | with_reducible (refine plain_map ?_) | with_reducible (refine plain_ite ?_ ?_) | split | (dsimp only)))
        · refine leaf_bind program _ fun _ => leaf_bind (nilAhead _ _ _ _) _ fun r => ?_
          split
          · exact leaf_bind (unsupported _) _ fun _ => Or.inl ⟨_, rfl⟩
          · exact Or.inl ⟨_, rfl⟩
      · exact ⟨okay_pure _, .inl ⟨_, rfl⟩⟩
    · exact ⟨okay_pure _, .inl ⟨_, rfl⟩⟩
  case unOp => exact ⟨V (plain_unary _ _), leaf_val⟩
  case makeSlice => exact ⟨V (plain_makeSlice _ _ _), leaf_val⟩
  case makeFunc => exact ⟨V (plain_pure _), leaf_val⟩
  case slice => exact ⟨V (plain_sliceAt _ _ _ _ _), leaf_val⟩
  case fieldAddr => exact ⟨V (plain_fieldAt _ _ _), leaf_val⟩
  case field => exact ⟨V (plain_field _ _ _), leaf_val⟩
  case indexAddr => exact ⟨V (plain_indexAt _ _ _), leaf_val⟩
  case index => exact ⟨V (plain_index _ _ _), leaf_val⟩
  case extract => exact ⟨V (plain_extract _ _), leaf_val⟩
  case binOp op t x y t' => exact ⟨VO (Okay.bind (okay_guard _ _ _ _ _ _) fun _ => okay_binOp _ _ _ _), leaf_val⟩
  case typeAssert => exact ⟨VO (okay_typeAssert _ _ _ _), leaf_val⟩
  case makeInterface => exact ⟨VO (okay_makeInterface _ _), leaf_val⟩
  case panic => exact ⟨VO (halt_panic _), leaf_val⟩
  case convert s d x =>
    have h1 : ((isInt P s && isInt P d) || isBytes P s d) = true := ho.2
    rw [Bool.or_eq_true, Bool.and_eq_true] at h1
    rcases h1 with h1 | h1
    · obtain ⟨k, hk⟩ := isInt_spec h1.1
      obtain ⟨k', hk'⟩ := isInt_spec h1.2
      exact ⟨V (plain_conv hk hk' _), leaf_val⟩
    · obtain ⟨e, h2, h3, h4⟩ := isBytes_spec h1
      exact ⟨V (plain_convB h2 h3 h4 _), leaf_val⟩
  case call c =>
    obtain ⟨callee, args, ats⟩ := c
    cases callee with
    | builtin b =>
      have h1 : okBuiltin b = true := ho.2
      cases b
      case len => exact ⟨V (plain_len _ _ _), leaf_val⟩
      case cap => exact ⟨V (plain_cap _ _ _), leaf_val⟩
      case append => exact ⟨V (plain_append _ _ _), leaf_val⟩
      case copy => exact ⟨V (plain_copy _ _ _), leaf_val⟩
      case min => exact ⟨V (plain_min _ _ _), leaf_val⟩
      case max => exact ⟨VO (okay_max _ _ _), leaf_val⟩
      all_goals cases h1
    | invoke recv name =>
      have h1 : okMeth P F (1 + args.size) name = true := ho.2
      have e : execOp ρ ⟨dst, .call ⟨.invoke recv name, args, ats⟩, ty, pos, after, guard⟩ = callMethod (ρ recv) name ((#[ρ recv] ++ args.map ρ).extract 1 (#[ρ recv] ++ args.map ρ).size) := by
        have h0 : (#[ρ recv] ++ args.map ρ)[0]? = some (ρ recv) := (Array.getElem?_append_left (Nat.zero_lt_one)).trans rfl
        show (match (#[ρ recv] ++ args.map ρ)[0]? with
          | some r => callMethod r name ((#[ρ recv] ++ args.map ρ).extract 1 (#[ρ recv] ++ args.map ρ).size)
          | _ => stuck "call: a method without a receiver") = _
        rw [h0]
      rw [e]
      unfold callMethod
      have hsz : ((#[ρ recv] ++ args.map ρ).extract 1 (#[ρ recv] ++ args.map ρ).size).size = args.size := by simp
      generalize (#[ρ recv] ++ args.map ρ).extract 1 (#[ρ recv] ++ args.map ρ).size = as at hsz
      cases ρ recv with
      | iface t v =>
        dsimp only
        refine ⟨okay_prog (Okay.bind2 (okay_method _ _ _ _) (leaf_method h1 _ _ _) fun r hr => (okay_callFunc hF (as := #[r.2] ++ as) hr.1 (by simp; omega)).1), leaf_bind program _ fun p => leaf_bind2 (method _ _ _ _) _ (leaf_method h1 _ _ _) fun r hr => (okay_callFunc hF (as := #[r.2] ++ as) hr.1 (by simp; omega)).2⟩
      | nilIface => exact ⟨Okay.of (plain_runtimePanic _), leaf_nil⟩
      | _ => exact ⟨okay_stuck _, trivial⟩
    | value x =>
      cases x with
      | func f =>
        have hf : (F f && decide (args.size ≤ arity P f)) = true := ho.2
        rw [Bool.and_eq_true, decide_eq_true_eq] at hf
        have e : execOp ρ ⟨dst, .call ⟨.value (.func f), args, ats⟩, ty, pos, after, guard⟩ = callFunc f (#[] ++ args.map ρ ++ #[]) := by
          show (Deferred.ofValue (ρ (.func f)) (args.map ρ) >>= fun d => invoke d.target d.args) = _
          rw [hρ]
          rfl
        rw [e]
        exact okay_callFunc hF (as := #[] ++ args.map ρ ++ #[]) hf.1 (by simpa using hf.2)
      | tmp j =>
        have hj : (S.any (fun x => x.1 == j) && S.all fun x => if x.1 == j then F x.2.1 && decide (x.2.2 + args.size ≤ arity P x.2.1) else true) = true := ho.2
        rw [Bool.and_eq_true] at hj
        obtain ⟨y, hy, hyj⟩ := List.any_eq_true.1 hj.1
        have hyj' : y.1 = j := by simpa using hyj
        have h2 := List.all_eq_true.1 hj.2 y hy
        rw [if_pos hyj, Bool.and_eq_true, decide_eq_true_eq] at h2
        have e0 : execOp ρ ⟨dst, .call ⟨.value (.tmp j), args, ats⟩, ty, pos, after, guard⟩ = (Deferred.ofValue (ρ (.tmp j)) (args.map ρ) >>= fun d => invoke d.target d.args) := rfl
        rw [e0, hτ]
        rcases hS y hy with h3 | ⟨fs, cs, h3, h4⟩
        · rw [← hyj', h3]
          exact ⟨okay_stuck _, trivial⟩
        · rw [← hyj', h3]
          exact okay_callFunc hF (as := fs ++ args.map ρ ++ cs) h2.1 (by simp; omega)
      | _ => cases ho.2
  all_goals cases ho.2
end
end Go.Lf

/-
  A lone run's frames: a step of such a goroutine is a step on its own frame, a call, or a return; it is the same with more to do behind, in another world that is like it.
-/
namespace Go.Lf
open Go.Conc

section
variable (P : Program) (F : FuncId → Bool)
/-- What may stand on a frame's list. -/
def TItem (S : Clos) : Item → Prop
  | .code c => okCodeS P F S c = true
  | .inBlock _ => True
  | .inLoop c => okCodeS P F S c = true
  | .inRegion ops _ => ops.all (okOpS P F S) = true
  | _ => False
structure TFr (f : Frame) : Prop where
  fn : ∃ fn, P.funcs[f.fn]? = some fn
  kind : f.kind = .normal
  defers : f.defers = []
  round : f.roundOf = none
  todo : ∃ S, (∀ it ∈ f.todo, TItem P F S it) ∧ InvS S f.tmps
end

section
variable {P : Program} {F : FuncId → Bool} {S : Clos} {tmps : Array Value}
theorem InvS.nil : InvS [] tmps := fun x hx => by simp at hx
/-- What a slot holds when something is put into it. -/
def putD (d : Option Tmp) (tmps : Array Value) (u : Value) : Array Value := match d with
  | some d => tmps.setIfInBounds d u
  | none => tmps
theorem getD_put (t d : Nat) (u : Value) : (tmps.setIfInBounds d u).getD t undef = if d = t then (if d < tmps.size then u else undef) else tmps.getD t undef := by
  rw [Array.getD_eq_getD_getElem?, Array.getElem?_setIfInBounds, Array.getD_eq_getD_getElem?]
  split
  · split
    · rfl
    · rfl
  · rfl
theorem InvS.un (h : InvS S tmps) (d : Option Tmp) : InvS S (putD d tmps undef) := fun x hx => by
  cases d with
  | none => exact h x hx
  | some d =>
    simp only [putD]
    rw [getD_put]
    split
    · left; split <;> rfl
    · exact h x hx
theorem InvS.put (h : InvS S tmps) {o : Oper} {u : Value} (hu : ∀ x ∈ S, o.dst = some x.1 → u = Go.undef ∨ ∃ fs cs, u = .func (.func x.2.1) fs cs ∧ fs.size + cs.size = x.2.2) : InvS S (putD o.dst tmps u) := fun x hx => by
  cases hd : o.dst with
  | none => exact h x hx
  | some d =>
    simp only [putD]
    rw [getD_put]
    split
    · rename_i e
      split
      · exact hu x hx (by rw [hd, e])
      · exact .inl rfl
    · exact h x hx
theorem ok_src {o : Oper} (ho : okOpS P F S o = true) {x : Nat × FuncId × Nat} (hx : x ∈ S) (hd : o.dst = some x.1) : okSrc S x.2 o.op = true := by
  unfold okOpS at ho
  rw [Bool.and_eq_true] at ho
  have := List.all_eq_true.1 ho.1 x hx
  rw [if_pos (by rw [hd]; simp)] at this
  exact this
/-- What an operation on such a slot yields. -/
theorem src_run {ρ : Operand → Value} (hτ : ∀ j, ρ (.tmp j) = tmps.getD j undef) (hS : InvS S tmps) {o : Oper} {x : FuncId × Nat} (h : okSrc S x o.op = true) {v v' : World} {es es' : Array Event} {n : Next} (hr : (execOp ρ o).runT P v es = (.ok n v', es')) :
    ∃ u, n = .value u ∧ (u = undef ∨ ∃ fs cs, u = .func (.func x.1) fs cs ∧ fs.size + cs.size = x.2) := by
  obtain ⟨dst, op, ty, pos, after, guard⟩ := o
  cases op
  case move y =>
    cases y
    case tmp j =>
      have h1 : (j, x) ∈ S := by simpa [okSrc] using h
      have e : (execOp ρ ⟨dst, .move (.tmp j), ty, pos, after, guard⟩).runT P v es = (.ok (.value (ρ (.tmp j))) v, es) := rfl
      rw [e] at hr
      cases hr
      exact ⟨_, rfl, by rw [hτ]; exact hS (j, x) h1⟩
    all_goals cases h
  case assign y =>
    cases y
    case tmp j =>
      have h1 : (j, x) ∈ S := by simpa [okSrc] using h
      have e : (execOp ρ ⟨dst, .assign (.tmp j), ty, pos, after, guard⟩).runT P v es = (.ok (.value (ρ (.tmp j))) v, es) := rfl
      rw [e] at hr
      cases hr
      exact ⟨_, rfl, by rw [hτ]; exact hS (j, x) h1⟩
    all_goals cases h
  case makeFunc fn first cap =>
    cases fn
    case func g =>
      have h1 : g = x.1 ∧ first.size + cap.size = x.2 := by simpa [okSrc] using h
      have e : (execOp ρ ⟨dst, .makeFunc (.func g) first cap, ty, pos, after, guard⟩).runT P v es = (.ok (.value (.func (.func g) (first.map ρ) (cap.map ρ))) v, es) := rfl
      rw [e] at hr
      cases hr
      exact ⟨_, rfl, .inr ⟨_, _, by rw [h1.1], by simpa using h1.2⟩⟩
    all_goals cases h
  all_goals cases h
theorem InvS.enter {as : Array Value} {n k : Nat} (ha : as.size ≤ n) (h : ∀ x ∈ S, n ≤ x.1) : InvS S (as ++ Array.replicate k undef) := fun x hx => by
  have := h x hx
  left
  rw [Array.getD_eq_getD_getElem?, Array.getElem?_append_right (by omega), Array.getElem?_replicate]
  split <;> rfl
end

/-- More to do behind. -/
def extB (K : List Item) (f : Frame) : Frame := { f with todo := f.todo ++ K }
theorem extB_nil (f : Frame) : extB [] f = f := by simp [extB]

/-- The events of a step, in the order of the two worlds. -/
def EvsP (X : Nat → Prop) (w : World) (es : Array Event) : Prop := ∀ e ∈ es, EvP X w e

section
variable {P : Program} {F : FuncId → Bool} {X : Nat → Prop} {Y : Nat → Option Obj}

/-- The step of one frame: three ways. -/
inductive Way (P : Program) (F : FuncId → Bool) (f : Frame) (cs : List Frame) (w w' : World) (es : Array Event) (g' : Goroutine) : Prop
  | here {f' : Frame} : g' = G f' cs → TFr P F f' → (f'.mode = .run ∨ f'.mode = .returning) → (∀ K cs2, (f.todo = [] → K = []) → stepG P true (G (extB K f) cs2) w = .go (G (extB K f') cs2) w' es) → Way P F f cs w w' es g'
  | call {e : Frame} : g' = G e (f :: cs) → TFr P F e → e.mode = .run → (f.todo ≠ [] ∧ ∀ u, TFr P F (f.finish u)) → (∀ K cs2, stepG P true (G (extB K f) cs2) w = .go (G e (extB K f :: cs2)) w' es) → Way P F f cs w w' es g'
  | back {c : Frame} {r : List Frame} {v : Value} : cs = c :: r → g' = G (c.finish v) r → f.mode = .returning → (∀ c2 r2, stepG P true (G f (c2 :: r2)) w = .go (G (c2.finish v) r2) w' es) → Way P F f cs w w' es g'

theorem exitTo_app {id : Nat} {K : List Item} : ∀ {k k' : List Item}, exitTo id k = some k' → exitTo id (k ++ K) = some (k' ++ K)
  | [], _, h => by simp [exitTo] at h
  | x :: k, k', h => by
    cases x <;> simp only [exitTo, List.cons_append] at h ⊢ <;> first
      | exact exitTo_app h
      | (split at h
         · rename_i hc; rw [if_pos hc]; cases h; rfl
         · rename_i hc; rw [if_neg hc]; exact exitTo_app h)
theorem exitTo_mem {id : Nat} : ∀ {k k' : List Item}, exitTo id k = some k' → ∀ it ∈ k', it ∈ k
  | [], _, h => by simp [exitTo] at h
  | x :: k, k', h => by
    intro it hit
    cases x <;> simp only [exitTo] at h <;> first
      | exact List.mem_cons_of_mem _ (exitTo_mem h it hit)
      | (split at h
         · cases h; exact List.mem_cons_of_mem _ hit
         · exact List.mem_cons_of_mem _ (exitTo_mem h it hit))

/-- The step reads the tape only as far as it draws from it. -/
def Tp (P : Program) (g : Goroutine) (v : World) (g' : Goroutine) (v' : World) (es : Array Event) : Prop :=
  v'.tape = v.tape ∧ v.drawn ≤ v'.drawn ∧ ∀ τ : Nat → Question → Nat, (∀ p, v.drawn ≤ p → p < v'.drawn → τ p = v.tape p) → stepG P true g { v with tape := τ } = .go g' { v' with tape := τ } es

/-- What is said of a step. -/
def Stepd (P : Program) (F : FuncId → Bool) (X : Nat → Prop) (Y : Nat → Option Obj) (f : Frame) (cs : List Frame) (w v : World) : Prop :=
  (∃ o v' es, stepG P true (G f cs) v = .ended o v' es) ∨ (∃ ch v' es, stepG P true (G f cs) v = .go (G { f with mode := .panicking ch } cs) v' es) ∨
  ∃ g' v' es w', stepG P true (G f cs) v = .go g' v' es ∧ Tp P (G f cs) v g' v' es ∧ Sim X Y w' v' ∧ w.heap.size ≤ w'.heap.size ∧ EvsP X w' es ∧ Way P F f cs w w' es g'

theorem ctl {f f' : Frame} {cs : List Frame} {w v : World} (hs : Sim X Y w v) (h : ∀ K cs2 u, (f.todo = [] → K = []) → stepG P true (G (extB K f) cs2) u = .go (G (extB K f') cs2) u #[]) (hT : TFr P F f') (hm : f'.mode = .run ∨ f'.mode = .returning) : Stepd P F X Y f cs w v := by
  have key : ∀ u, stepG P true (G f cs) u = .go (G f' cs) u #[] := fun u => by
    have := h [] cs u (fun _ => rfl)
    rwa [extB_nil, extB_nil] at this
  exact .inr (.inr ⟨G f' cs, v, #[], w, key v, ⟨rfl, Nat.le_refl _, fun τ _ => key _⟩, hs, Nat.le_refl _, fun e he => by simp at he, .here rfl hT hm fun K cs2 hk => h K cs2 w hk⟩)

theorem eval_ext (K : List Item) (f : Frame) : (extB K f).eval = f.eval := by
  funext x
  cases x <;> rfl

set_option maxHeartbeats 1000000 in
theorem tstep (hF : GoodF P F) {f : Frame} {cs : List Frame} {w v : World} (hT : TFr P F f) (hm : f.mode = .run) (hs : Sim X Y w v) : Stepd P F X Y f cs w v := by
  obtain ⟨fn, tmps, todo, defers, mode, kind, round⟩ := f
  obtain ⟨⟨fun0, hfn⟩, hk, hd, hr, S, ht, hS⟩ := hT
  dsimp only at hfn hk hd hr ht hS hm
  subst hk hd hr hm
  have mk : ∀ {todo' : List Item} {mode' : FrameMode}, (∀ it ∈ todo', TItem P F S it) → TFr P F ⟨fn, tmps, todo', [], mode', .normal, none⟩ := fun h => ⟨⟨fun0, hfn⟩, rfl, rfl, rfl, S, h, hS⟩
  cases todo with
  | nil => exact ctl (f' := ⟨fn, tmps, [], [], .returning, .normal, none⟩) hs (fun K cs2 u hK => by rw [hK rfl]; rfl) (mk (by simp)) (.inr rfl)
  | cons it k =>
    have hit := ht it (by simp)
    have hk : ∀ x ∈ k, TItem P F S x := fun x hx => ht x (by simp [hx])
    have two : ∀ {a : Item}, TItem P F S a → ∀ x ∈ a :: k, TItem P F S x := fun ha x hx => by
      rcases List.mem_cons.1 hx with rfl | hx
      · exact ha
      · exact hk x hx
    cases it with
    | code c =>
      cases c with
      | skip => exact ctl (f' := ⟨fn, tmps, k, [], .run, .normal, none⟩) hs (fun K cs2 u _ => rfl) (mk hk) (.inl rfl)
      | ret => exact ctl (f' := ⟨fn, tmps, .code .ret :: k, [], .returning, .normal, none⟩) hs (fun K cs2 u _ => rfl) (mk ht) (.inr rfl)
      | seq a b =>
        have hab : okCodeS P F S a = true ∧ okCodeS P F S b = true := by simpa [TItem, okCodeS] using hit
        exact ctl (f' := ⟨fn, tmps, .code a :: .code b :: k, [], .run, .normal, none⟩) hs (fun K cs2 u _ => rfl) (mk fun x hx => by
          rcases List.mem_cons.1 hx with rfl | hx
          · exact hab.1
          · exact two (a := .code b) hab.2 x hx) (.inl rfl)
      | cond c a b =>
        have hab : okCodeS P F S a = true ∧ okCodeS P F S b = true := by simpa [TItem, okCodeS] using hit
        cases he : (⟨fn, tmps, .code (.cond c a b) :: k, [], .run, .normal, none⟩ : Frame).eval c with
        | bool t =>
          refine ctl (f' := ⟨fn, tmps, .code (if t then a else b) :: k, [], .run, .normal, none⟩) hs (fun K cs2 u _ => ?_) (mk (two (a := .code (if t then a else b)) (by cases t <;> simp [TItem, hab]))) (.inl rfl)
          have he' : (extB K ⟨fn, tmps, .code (.cond c a b) :: k, [], .run, .normal, none⟩).eval c = .bool t := by rw [eval_ext]; exact he
          simp only [extB, List.cons_append] at he'
          simp only [G, extB, stepG, stepG.exec, List.cons_append, he']
        | _ => exact .inl ⟨_, _, _, by simp only [G, stepG, stepG.exec, he]; rfl⟩
      | block id c => exact ctl (f' := ⟨fn, tmps, .code c :: .inBlock id :: k, [], .run, .normal, none⟩) hs (fun K cs2 u _ => rfl) (mk fun x hx => by
          rcases List.mem_cons.1 hx with rfl | hx
          · exact hit
          · exact two (a := .inBlock id) trivial x hx) (.inl rfl)
      | loop c => exact ctl (f' := ⟨fn, tmps, .code c :: .inLoop c :: k, [], .run, .normal, none⟩) hs (fun K cs2 u _ => rfl) (mk fun x hx => by
          rcases List.mem_cons.1 hx with rfl | hx
          · exact hit
          · exact two (a := .inLoop c) hit x hx) (.inl rfl)
      | exit id =>
        cases he : exitTo id k with
        | none => exact .inl ⟨_, _, _, by simp only [G, stepG, stepG.exec, he, Option.elim]; rfl⟩
        | some k' => exact ctl (f' := ⟨fn, tmps, k', [], .run, .normal, none⟩) hs (fun K cs2 u _ => by simp only [G, extB, stepG, stepG.exec, List.cons_append, exitTo_app he, Option.elim]) (mk fun x hx => hk x (exitTo_mem he x hx)) (.inl rfl)
      | region id ops draw =>
        have ho : ops.all (okOpS P F S) = true := hit
        cases draw with
        | false => exact ctl (f' := ⟨fn, tmps, .inRegion ops (List.range ops.size) :: k, [], .run, .normal, none⟩) hs (fun K cs2 u _ => rfl) (mk (two (a := .inRegion ops _) ho)) (.inl rfl)
        | true =>
          have hc : ∀ u : World, (choose (.order fn id)).run P u = .ok (u.tape u.drawn (.order fn id)) { u with drawn := u.drawn + 1 } := fun u => rfl
          have et : w.tape w.drawn (.order fn id) = v.tape v.drawn (.order fn id) := by simpa using hs.str 0 (.order fn id)
          refine .inr (.inr ⟨_, { v with drawn := v.drawn + 1 }, #[], { w with drawn := w.drawn + 1 }, by simp only [G, stepG, stepG.exec, Bool.not_true, Bool.false_eq_true, if_false, hc], ⟨rfl, Nat.le_succ _, fun τ hτ => by simp only [G, stepG, stepG.exec, Bool.not_true, Bool.false_eq_true, if_false, hc, hτ v.drawn (Nat.le_refl _) (Nat.lt_succ_self _)]⟩, hs.draw, Nat.le_refl _, fun e he => by simp at he,
            .here (f' := ⟨fn, tmps, .inRegion ops (Region.schedule (P.follows .mixedOrders) ops (v.tape v.drawn (.order fn id))) :: k, [], .run, .normal, none⟩) rfl (mk (two (a := .inRegion ops _) ho)) (.inl rfl) fun K cs2 _ => ?_⟩)
          simp only [G, extB, stepG, stepG.exec, List.cons_append, Bool.not_true, Bool.false_eq_true, if_false, hc, et]
      | _ => cases hit
    | inBlock id => exact ctl (f' := ⟨fn, tmps, k, [], .run, .normal, none⟩) hs (fun K cs2 u _ => rfl) (mk hk) (.inl rfl)
    | inLoop c => exact ctl (f' := ⟨fn, tmps, .code c :: .inLoop c :: k, [], .run, .normal, none⟩) hs (fun K cs2 u _ => rfl) (mk fun x hx => by
          rcases List.mem_cons.1 hx with rfl | hx
          · exact hit
          · exact two (a := .inLoop c) hit x hx) (.inl rfl)
    | inRegion ops is =>
      cases is with
      | nil => exact ctl (f' := ⟨fn, tmps, k, [], .run, .normal, none⟩) hs (fun K cs2 u _ => rfl) (mk hk) (.inl rfl)
      | cons i rest =>
        have ho : ops.all (okOpS P F S) = true := hit
        cases hw : ((ops[i]?).map (Region.wanted · (yielded ops tmps))).getD false with
        | false =>
          refine ctl (f' := (⟨fn, tmps, .inRegion ops (i :: rest) :: k, [], .run, .normal, none⟩ : Frame).finish undef) hs (fun K cs2 u _ => ?_) ⟨⟨fun0, hfn⟩, rfl, rfl, rfl, S, two (a := .inRegion ops _) ho, hS.un _⟩ (.inl rfl)
          simp only [G, extB, stepG, stepG.exec, List.cons_append, hw, Bool.false_eq_true, if_false, Frame.finish]
        | true =>
          cases hoi : ops[i]? with
          | none => rw [hoi] at hw; cases hw
          | some o =>
            have hok : okOpS P F S o = true := Array.all_eq_true_iff_forall_mem.1 ho o (Array.mem_of_getElem? hoi)
            have eA : ∀ K cs2 u, stepG P true (G (extB K ⟨fn, tmps, .inRegion ops (i :: rest) :: k, [], .run, .normal, none⟩) cs2) u =
                stepG.apply P true (extB K ⟨fn, tmps, .inRegion ops (i :: rest) :: k, [], .run, .normal, none⟩) cs2 none (execOp (⟨fn, tmps, .inRegion ops (i :: rest) :: k, [], .run, .normal, none⟩ : Frame).eval o) u := fun K cs2 u => by
              rw [← eval_ext K]
              rw [hoi] at hw
              simp only [G, extB, stepG, stepG.exec, List.cons_append, stepG.oper, Frame.oper?, hoi]
              rw [if_pos hw]
            obtain ⟨hpl, hlf⟩ := exec_ok hF (ρ := (⟨fn, tmps, .inRegion ops (i :: rest) :: k, [], .run, .normal, none⟩ : Frame).eval) (fun _ => rfl) (fun _ => rfl) hS hok
            have hsr : ∀ {x : FuncId × Nat} {v v' : World} {es es' : Array Event} {n : Next}, okSrc S x o.op = true → (execOp (⟨fn, tmps, .inRegion ops (i :: rest) :: k, [], .run, .normal, none⟩ : Frame).eval o).runT P v es = (.ok n v', es') → ∃ u, n = .value u ∧ (u = undef ∨ ∃ fs cs, u = .func (.func x.1) fs cs ∧ fs.size + cs.size = x.2) := fun h hr => src_run (fun _ => rfl) hS h hr
            have fin : ∀ u, (⟨fn, tmps, .inRegion ops (i :: rest) :: k, [], .run, .normal, none⟩ : Frame).finish u = ⟨fn, putD o.dst tmps u, .inRegion ops rest :: k, [], .run, .normal, none⟩ := fun u => by
              simp only [Frame.finish, hoi, Option.bind_some]
              rfl
            generalize execOp (⟨fn, tmps, .inRegion ops (i :: rest) :: k, [], .run, .normal, none⟩ : Frame).eval o = sem at eA hpl hlf hsr
            have eA0 := eA [] cs v
            rw [extB_nil] at eA0
            cases hrun : sem.runT P v #[] with
            | mk r es =>
              cases r with
              | halt h v' =>
                have hh := hpl.halts w v #[] h v' es hs hrun
                cases h with
                | panic u =>
                  exact .inr (.inl ⟨_, _, _, by rw [eA0]; simp only [stepG.apply, if_true, hrun]; rfl⟩)
                | stuck s => exact .inl ⟨_, _, _, by rw [eA0]; simp only [stepG.apply, if_true, hrun]; rfl⟩
                | unsupported u =>
                  cases u with
                  | initOrder b => exact hh.elim
                  | _ => exact .inl ⟨_, _, _, by rw [eA0]; simp only [stepG.apply, if_true, hrun]; rfl⟩
                | _ => exact hh.elim
              | ok x v' =>
                obtain ⟨w', hrun', hs', hsz, hev⟩ := hpl.sim w v #[] x v' es hs hrun
                obtain ⟨ht1, ht2, ht3⟩ := hpl.tape v #[] x v' es hs.nv hrun
                have eAτ : ∀ τ : Nat → Question → Nat, stepG P true (G ⟨fn, tmps, .inRegion ops (i :: rest) :: k, [], .run, .normal, none⟩ cs) { v with tape := τ } = stepG.apply P true ⟨fn, tmps, .inRegion ops (i :: rest) :: k, [], .run, .normal, none⟩ cs none sem { v with tape := τ } := fun τ => by
                  have := eA [] cs { v with tape := τ }
                  rwa [extB_nil] at this
                have hsz' : w.heap.size ≤ w'.heap.size := by rw [hs.size, hs'.size]; exact hsz
                have hevs : EvsP X w' (seen P fn es) := fun e he => (hev e (mem_seen he)).resolve_left (by simp)
                rcases leaf_run sem hlf v #[] x v' es hrun with ⟨u, rfl⟩ | rfl | ⟨f1, as, hf1, has, rfl⟩
                · refine .inr (.inr ⟨_, _, seen P fn es, w', by rw [eA0]; simp only [stepG.apply, if_true, hrun, GStep.after]; rfl, ⟨ht1, ht2, fun τ hτ => by rw [eAτ]; simp only [stepG.apply, if_true, ht3 τ hτ, GStep.after]; rfl⟩, hs', hsz', hevs,
                    .here (f' := (⟨fn, tmps, .inRegion ops (i :: rest) :: k, [], .run, .normal, none⟩ : Frame).finish u) rfl (by rw [fin]; exact ⟨⟨fun0, hfn⟩, rfl, rfl, rfl, S, two (a := .inRegion ops _) ho, hS.put fun x hx hd => by obtain ⟨u', e, h⟩ := hsr (ok_src hok hx hd) hrun; cases e; exact h⟩) (.inl rfl) fun K cs2 _ => ?_⟩)
                  rw [eA]
                  simp only [stepG.apply, if_true, hrun', GStep.after]
                  rfl
                · refine .inr (.inr ⟨_, _, seen P fn es, w', by rw [eA0]; simp only [stepG.apply, if_true, hrun, GStep.after]; rfl, ⟨ht1, ht2, fun τ hτ => by rw [eAτ]; simp only [stepG.apply, if_true, ht3 τ hτ, GStep.after]; rfl⟩, hs', hsz', hevs,
                    .here (f' := (⟨fn, tmps, .inRegion ops (i :: rest) :: k, [], .run, .normal, none⟩ : Frame).finish undef) rfl (by rw [fin]; exact ⟨⟨fun0, hfn⟩, rfl, rfl, rfl, S, two (a := .inRegion ops _) ho, hS.un _⟩) (.inl rfl) fun K cs2 _ => ?_⟩)
                  rw [eA]
                  simp only [stepG.apply, if_true, hrun', GStep.after]
                  rfl
                · obtain ⟨fn1, c1, S1, g1, g2, g3, g4, g5⟩ := hf1
                  refine .inr (.inr ⟨_, _, seen P fn es, w', by rw [eA0]; simp only [stepG.apply, if_true, hrun, GStep.after]; rfl, ⟨ht1, ht2, fun τ hτ => by rw [eAτ]; simp only [stepG.apply, if_true, ht3 τ hτ, GStep.after]; rfl⟩, hs', hsz', hevs,
                    .call (e := Frame.enter P f1 as .normal) rfl ⟨⟨fn1, g1⟩, rfl, rfl, rfl, S1, fun x hx => ?_, InvS.enter has g5⟩ rfl ⟨by simp, fun u => by rw [fin]; exact ⟨⟨fun0, hfn⟩, rfl, rfl, rfl, S, two (a := .inRegion ops _) ho, hS.put fun x hx hd => by obtain ⟨u', e, h⟩ := hsr (ok_src hok hx hd) hrun; cases e⟩⟩ fun K cs2 => ?_⟩)
                  · simp only [Frame.enter, g1, Option.bind_some, g3, Option.getD_some, List.mem_singleton] at hx
                    subst hx
                    exact g4
                  · rw [eA]
                    simp only [stepG.apply, if_true, hrun', GStep.after]
                    rfl
    | _ => cases hit
end
end Go.Lf

/-
  A piece of code, run alone to its end: the same with whatever to do behind it, whoever called, in a world that is like it; and what it lists.
-/
namespace Go.Lf
open Go.Conc

section
variable {P : Program} {F : FuncId → Bool} {X : Nat → Prop} {Y : Nat → Option Obj}

theorem plain_results (fn : Func) (tmps : Array Value) : Plain P (results fn tmps) := by
  unfold results
  refine plain_bind (plain_mapM (fun x => ?_) _) fun vs => plain_pure _
  cases x with
  | tmp t => exact plain_pure _
  | cell a t => exact plain_bind (plain_asAddr _) fun _ => plain_loadVar _ _

set_option maxHeartbeats 1000000 in
theorem tback {f c : Frame} {r : List Frame} {w v : World} (hT : TFr P F f) (hm : f.mode = .returning) (hs : Sim X Y w v) : (∃ o v' es, stepG P true (G f (c :: r)) v = .ended o v' es) ∨
    ∃ y v' es w', stepG P true (G f (c :: r)) v = .go (G (c.finish y) r) v' es ∧ Tp P (G f (c :: r)) v (G (c.finish y) r) v' es ∧ Sim X Y w' v' ∧ w.heap.size ≤ w'.heap.size ∧ EvsP X w' es ∧ ∀ c2 r2, stepG P true (G f (c2 :: r2)) w = .go (G (c2.finish y) r2) w' es := by
  obtain ⟨fn, tmps, todo, defers, mode, kind, round⟩ := f
  obtain ⟨⟨fun0, hfn⟩, hk, hd, hr, ht⟩ := hT
  dsimp only at hfn hk hd hr ht hm
  subst hk hd hr hm
  have hpl := plain_results (P := P) fun0 tmps
  have eA : ∀ c2 r2 u, stepG P true (G ⟨fn, tmps, todo, [], .returning, .normal, none⟩ (c2 :: r2)) u =
      GStep.after (seen P fn ((results fun0 tmps).runT P u #[]).2) (match ((results fun0 tmps).runT P u #[]).1 with
        | .ok v w => doReturn P true ⟨fn, tmps, todo, [], .returning, .normal, none⟩ (c2 :: r2) none v w
        | .halt (.stuck s) w => .ended (.stuck s (Frame.pos P ⟨fn, tmps, todo, [], .returning, .normal, none⟩)) w
        | .halt _ w => .ended (.stuck "return: the result variables cannot be read" (Frame.pos P ⟨fn, tmps, todo, [], .returning, .normal, none⟩)) w) := fun c2 r2 u => by
    simp only [G, stepG, unwind, hfn]
    rfl
  cases hrun : (results fun0 tmps).runT P v #[] with
  | mk x es =>
    cases x with
    | halt h v' =>
      refine .inl ?_
      rw [eA, hrun]
      cases h <;> exact ⟨_, _, _, rfl⟩
    | ok y v' =>
      obtain ⟨w', hrun', hs', hsz, hev⟩ := sim_run _ w v #[] y v' es hpl hs hrun
      have hsz' : w.heap.size ≤ w'.heap.size := by rw [hs.size, hs'.size]; exact hsz
      obtain ⟨ht1, ht2, ht3⟩ := tape_run _ v #[] y v' es hpl hs.nv hrun
      refine .inr ⟨y, _, seen P fn es, w', by rw [eA, hrun]; simp only [doReturn, GStep.after]; rfl, ⟨ht1, ht2, fun τ hτ => by rw [eA, ht3 τ hτ]; simp only [doReturn, GStep.after]; rfl⟩, hs', hsz', fun e he => (hev e (mem_seen he)).resolve_left (by simp), fun c2 r2 => ?_⟩
      rw [eA, hrun']
      simp only [doReturn, GStep.after]
      rfl

/-- A frame beneath all: whatever comes back to it, or falls on it, is the end. -/
def f0 : Frame := { fn := 0, tmps := #[], todo := [.code (.refuse "")], defers := [{ target := .nil, args := #[] }], mode := .run, kind := .normal }
theorem f0_run (u : World) : ∃ o v es, stepG P true (G f0 []) u = .ended o v es := ⟨_, _, _, rfl⟩
theorem f0_finish (v : Value) : f0.finish v = f0 := rfl
theorem f0_dead (ch : List PanicEntry) (u : World) : ∃ o v es, stepG P true (G { f0 with mode := .panicking ch } []) u = .ended o v es := ⟨_, _, _, rfl⟩

/-- The stack of such a run: all but the last frame wait for a callee. -/
def Stack (P : Program) (F : FuncId → Bool) : List Frame → Prop
  | [] => True
  | c :: r => (TFr P F c ∧ c.mode = .run ∧ c.todo ≠ [] ∧ (∀ v, TFr P F (c.finish v) ∧ (c.finish v).mode = .run ∧ ∀ K, (extB K c).finish v = extB K (c.finish v))) ∧ Stack P F r

theorem finish_ok {c : Frame} (hT : TFr P F c) (hm : c.mode = .run) (hne : c.todo ≠ [] ∧ ∀ u, TFr P F (c.finish u)) : ∀ v, TFr P F (c.finish v) ∧ (c.finish v).mode = .run ∧ ∀ K, (extB K c).finish v = extB K (c.finish v) := by
  intro v
  refine ⟨hne.2 v, ?_⟩
  replace hne := hne.1
  obtain ⟨fn, tmps, todo, defers, mode, kind, round⟩ := c
  obtain ⟨h1, hk, hd, hr, S, ht, _⟩ := hT
  dsimp only at h1 hk hd hr ht hm hne
  subst hk hd hr hm
  cases todo with
  | nil => exact absurd rfl hne
  | cons it k =>
    have hit := ht it (by simp)
    cases it with
    | inRegion ops is =>
      cases is with
      | nil => exact ⟨rfl, fun K => rfl⟩
      | cons i rest => exact ⟨rfl, fun K => rfl⟩
    | code c => exact ⟨rfl, fun K => rfl⟩
    | inBlock id => exact ⟨rfl, fun K => rfl⟩
    | inLoop c => exact ⟨rfl, fun K => rfl⟩
    | _ => cases hit

/-- The stack with more to do behind its last frame, and other callers. -/
def extS (K : List Item) (cs : List Frame) : List Frame → List Frame
  | [] => cs
  | [b] => extB K b :: cs
  | c :: d :: r => c :: extS K cs (d :: r)

/-- Steps that list what is allowed. -/
inductive Gets (P : Program) (X : Nat → Prop) : Goroutine → World → Goroutine → World → Prop
  | refl (g : Goroutine) (w : World) : Gets P X g w g w
  | step {g g' g'' : Goroutine} {w w' w'' : World} {es : Array Event} : g.status = .running → stepG P true g w = .go g' w' es → EvsP X w' es → w.heap.size ≤ w'.heap.size → Gets P X g' w' g'' w'' → Gets P X g w g'' w''
theorem Gets.trans {g g' g'' : Goroutine} {w w' w'' : World} (h : Gets P X g w g' w') (h' : Gets P X g' w' g'' w'') : Gets P X g w g'' w'' := by
  induction h with
  | refl => exact h'
  | step a b c d _ ih => exact .step a b c d (ih h')

/-- n steps of a goroutine alone. -/
def ownN (P : Program) (n : Nat) (f : Frame) (cs : List Frame) (v : World) (f' : Frame) (cs' : List Frame) (v' : World) : Prop := runN P n (lone f cs v) = .next (lone f' cs' v')
theorem own_go {n : Nat} {f f1 f' : Frame} {cs cs1 cs' : List Frame} {v v1 v' : World} {es : Array Event} (he : stepG P true (G f cs) v = .go (G f1 cs1) v1 es) (h : ownN P (n + 1) f cs v f' cs' v') : ownN P n f1 cs1 v1 f' cs' v' := by
  have : step P (lone f cs v) = .next (lone f1 cs1 v1) := step_lone_go (by rw [show stepG P true { frame := f, callers := cs, status := .running, dying := none } v = _ from he]; rfl)
  unfold ownN at h
  rw [runN, this] at h
  exact h
theorem own_end {n : Nat} {f f' : Frame} {cs cs' : List Frame} {v v1 v' : World} {o : Outcome} {es : Array Event} (he : stepG P true (G f cs) v = .ended o v1 es) : ¬ ownN P (n + 1) f cs v f' cs' v' := by
  have : step P (lone f cs v) = .ended o v1 := step_lone_ended (by rw [show stepG P true { frame := f, callers := cs, status := .running, dying := none } v = _ from he]; rfl)
  intro h
  unfold ownN at h
  rw [runN, this] at h
  cases h
theorem own_zero {f f' : Frame} {cs cs' : List Frame} {v v' : World} (h : ownN P 0 f cs v f' cs' v') : f = f' ∧ cs = cs' ∧ v = v' := by
  unfold ownN at h
  rw [runN] at h
  simp only [lone, Stepped.next.injEq, Machine.mk.injEq] at h
  obtain ⟨h1, h2, _⟩ := h
  simp at h2
  exact ⟨h2.1, h2.2, h1⟩

/-- Once a panic is on its way there is no way back. -/
theorem dead_end : ∀ (n : Nat) (f : Frame) (r : List Frame) (ch : List PanicEntry) (v : World) (f' : Frame) (r' : List Frame) (v' : World), (∀ c ∈ r, TFr P F c ∧ c.mode = .run) → f.mode = .panicking ch → ((∃ fn, P.funcs[f.fn]? = some fn) ∧ f.defers = []) → f'.mode = .run →
    ¬ ownN P n f (r ++ [f0]) v f' r' v'
  | 0, f, r, ch, v, f', r', v', _, hm, _, hm', h => by
    obtain ⟨rfl, _⟩ := own_zero h
    rw [hm'] at hm
    cases hm
  | n + 1, f, r, ch, v, f', r', v', hr, hm, ⟨⟨fn, hfn⟩, hd⟩, hm', h => by
    have hcat : f.catches P = false := by unfold Frame.catches; rw [hfn]
    cases r with
    | nil =>
      have e : stepG P true (G f ([] ++ [f0])) v = .go (G (f0.raise ch) []) v #[] := by
        simp only [List.nil_append, G, stepG, hm, unwind, hd, hcat, Bool.false_eq_true, if_false]
      have h2 := own_go e h
      cases n with
      | zero =>
        obtain ⟨h3, _⟩ := own_zero h2
        rw [← h3] at hm'
        cases hm'
      | succ n =>
        obtain ⟨o, v1, es, he⟩ := f0_dead (P := P) ch v
        exact own_end (show stepG P true (G (f0.raise ch) []) v = _ from he) h2
    | cons c r =>
      have e : stepG P true (G f (c :: r ++ [f0])) v = .go (G (c.raise ch) (r ++ [f0])) v #[] := by
        simp only [List.cons_append, G, stepG, hm, unwind, hd, hcat, Bool.false_eq_true, if_false]
      have h2 := own_go e h
      obtain ⟨hc, hcm⟩ := hr c (by simp)
      have er : c.raise ch = { c with mode := .panicking ch } := by simp [Frame.raise, hcm]
      rw [er] at h2
      exact dead_end n { c with mode := .panicking ch } r ch v f' r' v' (fun x hx => hr x (by simp [hx])) rfl ⟨hc.fn, hc.defers⟩ hm' h2

def extG (K : List Item) (cs : List Frame) (f : Frame) (r : List Frame) : Goroutine :=
  match r with
  | [] => G (extB K f) cs
  | c :: r => G f (extS K cs (c :: r))

theorem stack_mem : ∀ {r : List Frame}, Stack P F r → ∀ c ∈ r, TFr P F c ∧ c.mode = .run
  | [], _, c, h => by simp at h
  | d :: r, hS, c, h => by
    rcases List.mem_cons.1 h with rfl | h
    · exact ⟨hS.1.1, hS.1.2.1⟩
    · exact stack_mem hS.2 c h

/-- From f0 there is no way back. -/
theorem f0_end (n : Nat) (v : World) (fz : Frame) (v' : World) : ¬ ownN P n f0 [] v fz [f0] v' := by
  intro h
  cases n with
  | zero => exact absurd (own_zero h).2.1 (by simp)
  | succ n =>
    obtain ⟨o, v1, es, he⟩ := f0_run (P := P) v
    exact own_end he h

/-- ████ The run is carried over. -/
theorem carry (hF : GoodF P F) {fz : Frame} {v' : World} (hz : fz.todo = []) (hzm : fz.mode = .run) (K : List Item) (cs : List Frame) : ∀ (n : Nat) (f : Frame) (r : List Frame) (v w : World), TFr P F f → (f.mode = .run ∨ f.mode = .returning) → Stack P F r → Sim X Y w v →
    ownN P n f (r ++ [f0]) v fz [f0] v' → ∃ w', Sim X Y w' v' ∧ Gets P X (extG K cs f r) w (G (extB K fz) cs) w'
  | 0, f, r, v, w, hT, hm, hS, hs, h => by
    obtain ⟨rfl, h2, rfl⟩ := own_zero h
    have : r = [] := by
      have := congrArg List.length h2
      simp at this
      exact this
    subst this
    exact ⟨w, hs, .refl _ _⟩
  | n + 1, f, r, v, w, hT, hm, hS, hs, h => by
    rcases hm with hm | hm
    · by_cases hend : r = [] ∧ f.todo = []
      · obtain ⟨rfl, ht⟩ := hend
        have e : stepG P true (G f ([] ++ [f0])) v = .go (G { f with mode := .returning } ([] ++ [f0])) v #[] := by
          obtain ⟨fn, tmps, todo, defers, mode, kind, round⟩ := f
          have hk := hT.kind
          have hd := hT.defers
          have hr := hT.round
          dsimp only at hk hd hr ht hm
          subst hk hd hr ht hm
          rfl
        have h2 := own_go e h
        cases n with
        | zero =>
          obtain ⟨h3, _⟩ := own_zero h2
          rw [← h3] at hzm
          cases hzm
        | succ n =>
          rcases tback (c := f0) (r := []) (f := { f with mode := .returning }) (F := F) ⟨hT.fn, hT.kind, hT.defers, hT.round, hT.todo⟩ rfl hs with ⟨o, v'', es', he⟩ | ⟨y, v'', es', w', he, _⟩
          · exact (own_end he h2).elim
          · exact absurd (own_go he h2) (f0_end n _ fz v')
      · rcases tstep (cs := r ++ [f0]) hF hT hm hs with ⟨o, v'', es', he⟩ | ⟨ch, v'', es', he⟩ | ⟨g', v'', es', w', he, _, hs', hsz, hev, hway⟩
        · exact (own_end he h).elim
        · exact absurd (own_go he h) (dead_end (F := F) n _ r ch _ fz [f0] v' (stack_mem hS) rfl ⟨hT.fn, hT.defers⟩ hzm)
        · cases hway with
          | @here f' hg hT' hm' hB =>
            subst hg
            have h2 := own_go he h
            obtain ⟨w2, hs2, hG⟩ := carry hF hz hzm K cs n f' r v'' w' hT' hm' hS hs' h2
            refine ⟨w2, hs2, ?_⟩
            cases r with
            | nil => exact .step rfl (hB K cs fun ht => absurd ⟨rfl, ht⟩ hend) hev hsz hG
            | cons c r =>
              have := hB [] (extS K cs (c :: r)) (fun _ => rfl)
              rw [extB_nil, extB_nil] at this
              exact .step rfl this hev hsz hG
          | @call e hg hTe hme hne hB =>
            subst hg
            have h2 := own_go he h
            obtain ⟨w2, hs2, hG⟩ := carry hF hz hzm K cs n e (f :: r) v'' w' hTe (.inl hme) ⟨⟨hT, hm, hne.1, finish_ok hT hm hne⟩, hS⟩ hs' h2
            refine ⟨w2, hs2, ?_⟩
            cases r with
            | nil => exact .step rfl (hB K cs) hev hsz hG
            | cons c r =>
              have := hB [] (extS K cs (c :: r))
              rw [extB_nil] at this
              exact .step rfl this hev hsz hG
          | back _ _ hr _ => rw [hm] at hr; cases hr
    · cases r with
      | nil =>
        rcases tback (c := f0) (r := []) (F := F) hT hm hs with ⟨o, v'', es', he⟩ | ⟨y, v'', es', w', he, _⟩
        · exact (own_end he h).elim
        · exact absurd (own_go he h) (f0_end n _ fz v')
      | cons c r =>
        rcases tback (c := c) (r := r ++ [f0]) (F := F) hT hm hs with ⟨o, v'', es', he⟩ | ⟨y, v'', es', w', he, _, hs', hsz, hev, hB⟩
        · exact (own_end he h).elim
        · have h2 := own_go he h
          obtain ⟨hTc, hmc, hfin⟩ := hS.1.2.2.2 y
          obtain ⟨w2, hs2, hG⟩ := carry hF hz hzm K cs n (c.finish y) r v'' w' hTc (.inl hmc) hS.2 hs' h2
          refine ⟨w2, hs2, ?_⟩
          cases r with
          | nil =>
            have := hB (extB K c) cs
            rw [hfin K] at this
            exact .step rfl this hev hsz hG
          | cons d r => exact .step rfl (hB c (extS K cs (d :: r))) hev hsz hG

/-- ████ A piece of such code, by its lone law: with whatever to do behind it, whoever called. -/
theorem seg (hF : GoodF P F) {c : Code} (hc : okCode P F c = true) {Q : Exit → Act → World → Prop} {a : Act} {v : World} (h : c.wp P Q a v) (hQ : ∀ e a' v', Q e a' v' → e = .normal ∧ a'.defers = []) (ha : a.defers = []) {f : FuncId} (hf : ∃ fn, P.funcs[f]? = some fn) {w : World} (hs : Sim X Y w v) :
    ∃ a' v', Q .normal a' v' ∧ ∀ (k : List Item) (cs : List Frame), ∃ w'', Sim X Y w'' v' ∧ Gets P X (G ((base f).at a (.code c :: k)) cs) w (G ((base f).at a' k) cs) w'' := by
  obtain ⟨e, a', v', hq, harr⟩ := h (base f) [] [f0]
  obtain ⟨rfl, hd⟩ := hQ _ _ _ hq
  obtain ⟨n, hn⟩ : Steps P (lone ((base f).at a [.code c]) [f0] v) (lone ((base f).at a' []) [f0] v') := harr
  have key := fun K cs => carry hF (X := X) (Y := Y) (fz := (base f).at a' []) (v' := v') rfl rfl K cs n ((base f).at a [.code c]) [] v w ⟨hf, rfl, ha, rfl, [], fun x hx => by simp [Frame.at] at hx; subst hx; exact hc, InvS.nil⟩ (.inl rfl) trivial hs hn
  exact ⟨a', v', hq, fun k cs => key k cs⟩

def NoX : Nat → Prop := fun _ => False
end
end Go.Lf

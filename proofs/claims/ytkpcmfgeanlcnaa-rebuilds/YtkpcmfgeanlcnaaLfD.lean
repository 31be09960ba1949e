/-
  The operations that a lone run is made of: which they are, and what each leads to.
-/
import Derived.Test.YtkpcmfgeanlcnaaLfC
namespace Go.Lf

/-- All that it can yield. -/
def Leaf (P : Program) {α : Type} (Q : α → Prop) : Sem α → Prop
  | .pure a => Q a
  | .load _ _ k => ∀ v, Leaf P Q (k v)
  | .store _ _ _ k => Leaf P Q k
  | .new _ k => ∀ r, Leaf P Q (k r)
  | .shape _ k => ∀ s, Leaf P Q (k s)
  | .freeze _ _ k => Leaf P Q k
  | .frozen _ k => ∀ b, Leaf P Q (k b)
  | .getObj _ k => ∀ o, Leaf P Q (k o)
  | .setObj _ _ k => Leaf P Q k
  | .choose _ k => ∀ n, Leaf P Q (k n)
  | .sys _ k => ∀ r, Leaf P Q (k r)
  | .program k => Leaf P Q (k P)
  | .mark _ k => Leaf P Q k
  | .halt _ => True
section
variable {P : Program} {α β : Type}
theorem leaf_bind {Q : β → Prop} : ∀ (s : Sem α) (f : α → Sem β), (∀ a, Leaf P Q (f a)) → Leaf P Q (s.bind f)
  | .pure a, _, h => h a
  | .load _ _ k, f, h => fun v => leaf_bind (k v) f h
  | .store _ _ _ k, f, h => leaf_bind k f h
  | .new _ k, f, h => fun v => leaf_bind (k v) f h
  | .shape _ k, f, h => fun v => leaf_bind (k v) f h
  | .freeze _ _ k, f, h => leaf_bind k f h
  | .frozen _ k, f, h => fun v => leaf_bind (k v) f h
  | .getObj _ k, f, h => fun v => leaf_bind (k v) f h
  | .setObj _ _ k, f, h => leaf_bind k f h
  | .choose _ k, f, h => fun v => leaf_bind (k v) f h
  | .sys _ k, f, h => fun v => leaf_bind (k v) f h
  | .program k, f, h => leaf_bind (k P) f h
  | .mark _ k, f, h => leaf_bind k f h
  | .halt _, _, _ => trivial
theorem leaf_run {Q : α → Prop} : ∀ (s : Sem α), Leaf P Q s → ∀ (w : World) (es : Array Event) (x : α) (w' : World) (es' : Array Event), s.runT P w es = (.ok x w', es') → Q x
  | .pure a, h, w, es, x, w', es', hr => by simp only [Sem.runT] at hr; cases hr; exact h
  | .load m a k, h, w, es, x, w', es', hr => by
    unfold Sem.runT at hr
    cases hc : w.cell? a with
    | some v => rw [hc] at hr; exact leaf_run (k v) (h v) _ _ _ _ _ hr
    | none =>
      rw [hc] at hr
      dsimp only at hr
      cases hf : w.farLoad P a (m == .atomic) with
      | ok r => rw [hf] at hr; exact leaf_run (k r.1) (h r.1) _ _ _ _ _ hr
      | error e => rw [hf] at hr; cases hr
  | .store m a v k, h, w, es, x, w', es', hr => by
    have key : (∀ (w : World), (Sem.store m a v k).runT P w es = match w.cell? a with
        | some _ => if w.frozen? a then (.halt (.unsupported (.unsafePointer "a write to bytes that a string shares")) w, es) else k.runT P (w.setCell a v) (es.push ⟨.cell a, true, m == Mode.atomic⟩)
        | none => match w.farStore P a v (m == Mode.atomic) with
          | .ok (w, touched) => k.runT P w (es ++ touched.toArray.map (⟨.cell ·, true, m == Mode.atomic⟩))
          | .error h => (.halt h w, es)) ∨ (∀ (w : World), (Sem.store m a v k).runT P w es = (.halt (.stuck "store: not the value of one cell") w, es)) := by
      cases v <;> first | exact .inr fun _ => rfl | exact .inl fun _ => rfl
    rcases key with key | key
    · rw [key] at hr
      cases hc : w.cell? a with
      | some u =>
        rw [hc] at hr
        dsimp only at hr
        split at hr
        · cases hr
        · exact leaf_run k h _ _ _ _ _ hr
      | none =>
        rw [hc] at hr
        dsimp only at hr
        cases hf : w.farStore P a v (m == .atomic) with
        | ok r => rw [hf] at hr; exact leaf_run k h _ _ _ _ _ hr
        | error e => rw [hf] at hr; cases hr
    · rw [key] at hr; cases hr
  | .new o k, h, w, es, x, w', es', hr => leaf_run (k w.heap.size) (h _) _ es x w' es' hr
  | .shape r k, h, w, es, x, w', es', hr => leaf_run (k (w.shape? r)) (h _) w es x w' es' hr
  | .freeze a n k, h, w, es, x, w', es', hr => leaf_run k h (w.freeze a n) es x w' es' hr
  | .frozen a k, h, w, es, x, w', es', hr => leaf_run (k (w.frozen? a)) (h _) w es x w' es' hr
  | .getObj r k, h, w, es, x, w', es', hr => by
    unfold Sem.runT at hr
    split at hr
    · cases hr
    · exact leaf_run (k _) (h _) _ _ _ _ _ hr
    · cases hr
  | .setObj r o k, h, w, es, x, w', es', hr => by
    unfold Sem.runT at hr
    split at hr
    · cases hr
    · exact leaf_run k h _ _ _ _ _ hr
    · cases hr
  | .choose q k, h, w, es, x, w', es', hr => by
    unfold Sem.runT at hr
    split at hr
    · exact leaf_run (k 0) (h _) _ _ _ _ _ hr
    · exact leaf_run (k _) (h _) _ _ _ _ _ hr
  | .sys c k, h, w, es, x, w', es', hr => leaf_run (k (w.sys c).1) (h _) (w.sys c).2 _ x w' es' hr
  | .program k, h, w, es, x, w', es', hr => leaf_run (k P) h w es x w' es' hr
  | .mark m k, h, w, es, x, w', es', hr => leaf_run k h w _ x w' es' hr
  | .halt _, _, _, _, _, _, _, hr => by simp only [Sem.runT] at hr; cases hr

theorem plain_listM {f : α → Sem β} (h : ∀ a, Plain P (f a)) : ∀ l : List α, Plain P (l.mapM f)
  | [] => trivial
  | a :: l => by
    rw [List.mapM_cons]
    exact plain_bind (h a) fun b => plain_bind (plain_listM h l) fun bs => plain_pure _
theorem plain_mapM {f : α → Sem β} (h : ∀ a, Plain P (f a)) (l : Array α) : Plain P (l.mapM f) := by
  rw [Array.mapM_eq_mapM_toList]
  exact plain_map (plain_listM h _)
end

def isInt (P : Program) (t : TypeId) : Bool := match P.underlying t with | some (.int _) => true | _ => false
theorem isInt_spec {P : Program} {t : TypeId} (h : isInt P t = true) : ∃ k, P.underlying t = some (.int k) := by
  unfold isInt at h
  split at h
  · exact ⟨_, by assumption⟩
  · cases h
/-- Numbers, truths, words. -/
def isFlat (P : Program) (t : TypeId) : Bool := match P.underlying t with | some (.int _) => true | some .string => true | some .bool => true | _ => false
theorem isFlat_spec {P : Program} {t : TypeId} (h : isFlat P t = true) : (∃ k, P.underlying t = some (.int k)) ∨ P.underlying t = some .string ∨ P.underlying t = some .bool := by
  unfold isFlat at h
  split at h
  · exact .inl ⟨_, by assumption⟩
  · exact .inr (.inl (by assumption))
  · exact .inr (.inr (by assumption))
  · cases h
/-- Bytes, made a word. -/
def isBytes (P : Program) (s d : TypeId) : Bool := match P.underlying s, P.underlying d with
  | some (.slice e), some .string => (match P.underlying e with | some (.int .u8) => true | _ => false)
  | _, _ => false
theorem isBytes_spec {P : Program} {s d : TypeId} (h : isBytes P s d = true) : ∃ e, P.underlying s = some (.slice e) ∧ P.underlying d = some .string ∧ P.underlying e = some (.int .u8) := by
  unfold isBytes at h
  split at h
  · rename_i e h1 h2
    split at h
    · exact ⟨e, h1, h2, by assumption⟩
    · cases h
  · cases h
def okBuiltin : Builtin → Bool
  | .len | .cap | .append | .copy => true
  | _ => false
def okBin (P : Program) (t : TypeId) : BinOp → Bool
  | .eql | .neq => isFlat P t
  | _ => true
/-- An operation that a lone run may be made of; F: the functions that may be called. -/
def okOp (P : Program) (F : FuncId → Bool) (o : Oper) : Bool :=
  match o.op with
  | .move _ | .assign _ | .pick .. | .alloc _ | .box .. | .build .. | .buildSlice .. | .load .. | .store .. | .unOp .. | .makeSlice .. | .slice .. | .fieldAddr .. | .field .. | .indexAddr .. | .index .. | .extract .. => true
  | .binOp op t _ _ _ => okBin P t op
  | .convert s d _ => (isInt P s && isInt P d) || isBytes P s d
  | .call c => match c.callee with
    | .builtin b => okBuiltin b
    | .value (.func f) => F f
    | _ => false
  | _ => false
def okCode (P : Program) (F : FuncId → Bool) : Code → Bool
  | .skip | .ret | .exit _ => true
  | .seq a b => okCode P F a && okCode P F b
  | .cond _ a b => okCode P F a && okCode P F b
  | .block _ c => okCode P F c
  | .loop c => okCode P F c
  | .region _ ops _ => ops.all (okOp P F)
  | _ => false
/-- The functions that may be called are there, and of such code. -/
def GoodF (P : Program) (F : FuncId → Bool) : Prop := ∀ f, F f = true → ∃ fn c, P.funcs[f]? = some fn ∧ (fn.name == "runtime.NumGoroutine") = false ∧ fn.body = some c ∧ okCode P F c = true

section
variable {P : Program} {F : FuncId → Bool}
theorem plain_callFunc (hF : GoodF P F) {f : FuncId} (hf : F f = true) (as : Array Value) : Plain P (callFunc f as) ∧ ∀ Q : Next → Prop, Q (.enter f as) → Leaf P Q (callFunc f as) := by
  obtain ⟨fn, c, h1, h2, h3, _⟩ := hF f hf
  have hne : fn.body.isNone = false := by rw [h3]; rfl
  have e : ∀ (Q : Sem Next → Prop), Q (pure (.enter f as)) → Q ((fun p : Program => match p.funcs[f]? with
    | none => stuck "call: no such function"
    | some fn => if fn.name == "runtime.NumGoroutine" then pure .numGoroutine
      else if fn.body.isNone then (do
        mark (.extern f)
        if let some e := Extern.findNext fn then return ← e as
        match Extern.find fn with
        | some e => pure (.value (← e as))
        | none =>
          if fn.name.endsWith ".init" && !fn.name.startsWith "(" && !fn.name.startsWith "gosem." then pure (.value (.tuple #[]))
          else unsupported (.extern fn.name))
      else pure (.enter f as) : Program → Sem Next) P) := fun Q hQ => by
    dsimp only
    rw [h1]
    dsimp only
    rw [h2, hne]
    exact hQ
  exact ⟨e (Plain P) (plain_pure _), fun Q hQ => e (Leaf P Q) hQ⟩
end
attribute [local irreducible] Plain
section
variable {P : Program} {F : FuncId → Bool}
theorem plain_build (t : TypeId) (ps : Array (Nat × Value)) : Plain P (Instr.build t ps) := by
  unfold Instr.build
  (repeat' (first | with_reducible assumption | with_reducible exact plain_pure _ | with_reducible exact plain_pure' _ | with_reducible exact plain_stuck _ | ((with_reducible refine plain_uns ?_); exact trivial) | with_reducible exact plain_goPanic _ | with_reducible exact plain_load _ | with_reducible exact plain_store _ _ | with_reducible exact plain_freeze _ _ | with_reducible exact plain_frozen _ | with_reducible exact plain_choose _ | with_reducible exact plain_program | with_reducible exact plain_room _ | with_reducible exact plain_new trivial | with_reducible exact plain_zeroValue _ | with_reducible exact plain_underlying _ | with_reducible exact plain_sizeOf _ | with_reducible exact plain_mapM (fun _ => plain_bind (plain_sizeOf _) fun _ => plain_pure _) _ | ((with_reducible refine plain_getObj ?_ ?_); (focus (exact ghost_both (fun _ _ _ => rfl) (fun _ _ => rfl))); (intro _)) | with_reducible (refine plain_bind ?_ (fun _ => ?_)) | with_reducible (refine plain_map ?_) | with_reducible (refine plain_ite ?_ ?_) | split | (dsimp only)))
theorem plain_conv {s d : TypeId} {k k' : IntKind} (hs : P.underlying s = some (.int k)) (hd : P.underlying d = some (.int k')) (x : Value) : Plain P (convert s d x) := by
  unfold convert
  refine plain_under hs (plain_under hd ?_)
  have h1 : ∀ k n, Plain P (Conv.intToInt k n) := fun k n => by unfold Conv.intToInt; (repeat' (first | with_reducible assumption | with_reducible exact plain_pure _ | with_reducible exact plain_pure' _ | with_reducible exact plain_stuck _ | ((with_reducible refine plain_uns ?_); exact trivial) | with_reducible exact plain_goPanic _ | with_reducible exact plain_load _ | with_reducible exact plain_store _ _ | with_reducible exact plain_freeze _ _ | with_reducible exact plain_frozen _ | with_reducible exact plain_choose _ | with_reducible exact plain_program | with_reducible exact plain_room _ | with_reducible exact plain_new trivial | ((with_reducible refine plain_getObj ?_ ?_); (focus (exact ghost_both (fun _ _ _ => rfl) (fun _ _ => rfl))); (intro _)) | with_reducible (refine plain_bind ?_ (fun _ => ?_)) | with_reducible (refine plain_map ?_) | with_reducible (refine plain_ite ?_ ?_) | split | (dsimp only)))
  have h2 : ∀ a b k, Plain P (Conv.floatToInt a b k) := fun a b k => by unfold Conv.floatToInt; (repeat' (first | with_reducible assumption | with_reducible exact plain_pure _ | with_reducible exact plain_pure' _ | with_reducible exact plain_stuck _ | ((with_reducible refine plain_uns ?_); exact trivial) | with_reducible exact plain_goPanic _ | with_reducible exact plain_load _ | with_reducible exact plain_store _ _ | with_reducible exact plain_freeze _ _ | with_reducible exact plain_frozen _ | with_reducible exact plain_choose _ | with_reducible exact plain_program | with_reducible exact plain_room _ | with_reducible exact plain_new trivial | ((with_reducible refine plain_getObj ?_ ?_); (focus (exact ghost_both (fun _ _ _ => rfl) (fun _ _ => rfl))); (intro _)) | with_reducible (refine plain_bind ?_ (fun _ => ?_)) | with_reducible (refine plain_map ?_) | with_reducible (refine plain_ite ?_ ?_) | split | (dsimp only)))
  split <;> first | contradiction | (repeat' (first | with_reducible assumption | with_reducible exact plain_pure _ | with_reducible exact plain_pure' _ | with_reducible exact plain_stuck _ | ((with_reducible refine plain_uns ?_); exact trivial) | with_reducible exact plain_goPanic _ | with_reducible exact plain_load _ | with_reducible exact plain_store _ _ | with_reducible exact plain_freeze _ _ | with_reducible exact plain_frozen _ | with_reducible exact plain_choose _ | with_reducible exact plain_program | with_reducible exact plain_room _ | with_reducible exact plain_new trivial | with_reducible exact h1 _ _ | with_reducible exact h2 _ _ _ | ((with_reducible refine plain_getObj ?_ ?_); (focus (exact ghost_both (fun _ _ _ => rfl) (fun _ _ => rfl))); (intro _)) | with_reducible (refine plain_bind ?_ (fun _ => ?_)) | with_reducible (refine plain_map ?_) | with_reducible (refine plain_ite ?_ ?_) | split | (dsimp only)))
theorem plain_forIn {γ σ : Type} {f : γ → σ → Sem (ForInStep σ)} (h : ∀ a s, Plain P (f a s)) : ∀ (l : List γ) (s : σ), Plain P (forIn l s f)
  | [], s => by rw [List.forIn_nil]; exact plain_pure _
  | a :: l, s => by
    rw [List.forIn_cons]
    refine plain_bind (h a s) fun r => ?_
    cases r with
    | done b => exact plain_pure _
    | yield b => exact plain_forIn h l b
theorem plain_bytesTo (x : Value) : Plain P (Conv.bytesToString x) := by
  unfold Conv.bytesToString
  split
  · exact plain_pure _
  · refine plain_bind (plain_loadCells _ _) fun cs => plain_bind ?_ fun _ => plain_pure _
    rw [← Array.forIn_toList]
    refine plain_forIn (fun c s => ?_) _ _
    (repeat' (first | with_reducible assumption | with_reducible exact plain_pure _ | with_reducible exact plain_pure' _ | with_reducible exact plain_stuck _ | ((with_reducible refine plain_uns ?_); exact trivial) | with_reducible exact plain_goPanic _ | with_reducible exact plain_load _ | with_reducible exact plain_store _ _ | with_reducible exact plain_freeze _ _ | with_reducible exact plain_frozen _ | with_reducible exact plain_choose _ | with_reducible exact plain_program | with_reducible exact plain_room _ | with_reducible exact plain_new trivial | ((with_reducible refine plain_getObj ?_ ?_); (focus (exact ghost_both (fun _ _ _ => rfl) (fun _ _ => rfl))); (intro _)) | with_reducible (refine plain_bind ?_ (fun _ => ?_)) | with_reducible (refine plain_map ?_) | with_reducible (refine plain_ite ?_ ?_) | split | (dsimp only)))
  · (repeat' (first | with_reducible assumption | with_reducible exact plain_pure _ | with_reducible exact plain_pure' _ | with_reducible exact plain_stuck _ | ((with_reducible refine plain_uns ?_); exact trivial) | with_reducible exact plain_goPanic _ | with_reducible exact plain_load _ | with_reducible exact plain_store _ _ | with_reducible exact plain_freeze _ _ | with_reducible exact plain_frozen _ | with_reducible exact plain_choose _ | with_reducible exact plain_program | with_reducible exact plain_room _ | with_reducible exact plain_new trivial | ((with_reducible refine plain_getObj ?_ ?_); (focus (exact ghost_both (fun _ _ _ => rfl) (fun _ _ => rfl))); (intro _)) | with_reducible (refine plain_bind ?_ (fun _ => ?_)) | with_reducible (refine plain_map ?_) | with_reducible (refine plain_ite ?_ ?_) | split | (dsimp only)))
theorem plain_convB {s d e : TypeId} (hs : P.underlying s = some (.slice e)) (hd : P.underlying d = some .string) (he : P.underlying e = some (.int .u8)) (x : Value) : Plain P (convert s d x) := by
  unfold convert
  refine plain_under hs (plain_under hd ?_)
  have h1 : ∀ n, Plain P (Conv.intToString n) := fun n => by unfold Conv.intToString; (repeat' (first | with_reducible assumption | with_reducible exact plain_pure _ | with_reducible exact plain_pure' _ | with_reducible exact plain_stuck _ | ((with_reducible refine plain_uns ?_); exact trivial) | with_reducible exact plain_goPanic _ | with_reducible exact plain_load _ | with_reducible exact plain_store _ _ | with_reducible exact plain_freeze _ _ | with_reducible exact plain_frozen _ | with_reducible exact plain_choose _ | with_reducible exact plain_program | with_reducible exact plain_room _ | with_reducible exact plain_new trivial | ((with_reducible refine plain_getObj ?_ ?_); (focus (exact ghost_both (fun _ _ _ => rfl) (fun _ _ => rfl))); (intro _)) | with_reducible (refine plain_bind ?_ (fun _ => ?_)) | with_reducible (refine plain_map ?_) | with_reducible (refine plain_ite ?_ ?_) | split | (dsimp only)))
  have h2 : Plain P (underlying e >>= fun u => match u with | .int .u8 => Conv.bytesToString x | .int .i32 => Conv.runesToString x | _ => stuck "Convert: a slice of what to string?") := plain_under he (plain_bytesTo x)
  split
  all_goals first
    | contradiction
    | exact plain_pure _
    | exact h1 _
    | (rename_i hh _ _ _; cases hh; exact h2)
    | trivial
    | (repeat' (first | with_reducible assumption | with_reducible exact plain_pure _ | with_reducible exact plain_pure' _ | with_reducible exact plain_stuck _ | ((with_reducible refine plain_uns ?_); exact trivial) | with_reducible exact plain_goPanic _ | with_reducible exact plain_load _ | with_reducible exact plain_store _ _ | with_reducible exact plain_freeze _ _ | with_reducible exact plain_frozen _ | with_reducible exact plain_choose _ | with_reducible exact plain_program | with_reducible exact plain_room _ | with_reducible exact plain_new trivial | ((with_reducible refine plain_getObj ?_ ?_); (focus (exact ghost_both (fun _ _ _ => rfl) (fun _ _ => rfl))); (intro _)) | with_reducible (refine plain_bind ?_ (fun _ => ?_)) | with_reducible (refine plain_map ?_) | with_reducible (refine plain_ite ?_ ?_) | split | (dsimp only)))
theorem plain_guard (op : BinOp) (t : TypeId) (x y : Operand) (a b : Value) (h : okBin P t op = true) : Plain P (eqGuard op t x y a b) := by
  have key : isFlat P t = true → ∀ a b, Plain P (Op.eqGuardIn Op.maxDepth t a b) := fun hi a b => by
    show Plain P (Op.eqGuardIn (9999 + 1) t a b)
    unfold Op.eqGuardIn
    rcases isFlat_spec hi with ⟨k, hk⟩ | hk | hk
    · refine plain_under hk ?_
      split <;> first | contradiction | (repeat' (first | with_reducible assumption | with_reducible exact plain_pure _ | with_reducible exact plain_pure' _ | with_reducible exact plain_stuck _ | ((with_reducible refine plain_uns ?_); exact trivial) | with_reducible exact plain_goPanic _ | with_reducible exact plain_load _ | with_reducible exact plain_store _ _ | with_reducible exact plain_freeze _ _ | with_reducible exact plain_frozen _ | with_reducible exact plain_choose _ | with_reducible exact plain_program | with_reducible exact plain_room _ | with_reducible exact plain_new trivial | ((with_reducible refine plain_getObj ?_ ?_); (focus (exact ghost_both (fun _ _ _ => rfl) (fun _ _ => rfl))); (intro _)) | with_reducible (refine plain_bind ?_ (fun _ => ?_)) | with_reducible (refine plain_map ?_) | with_reducible (refine plain_ite ?_ ?_) | split | (dsimp only)))
    · refine plain_under hk ?_
      split <;> first | contradiction | (repeat' (first | with_reducible assumption | with_reducible exact plain_pure _ | with_reducible exact plain_pure' _ | with_reducible exact plain_stuck _ | ((with_reducible refine plain_uns ?_); exact trivial) | with_reducible exact plain_goPanic _ | with_reducible exact plain_load _ | with_reducible exact plain_store _ _ | with_reducible exact plain_freeze _ _ | with_reducible exact plain_frozen _ | with_reducible exact plain_choose _ | with_reducible exact plain_program | with_reducible exact plain_room _ | with_reducible exact plain_new trivial | ((with_reducible refine plain_getObj ?_ ?_); (focus (exact ghost_both (fun _ _ _ => rfl) (fun _ _ => rfl))); (intro _)) | with_reducible (refine plain_bind ?_ (fun _ => ?_)) | with_reducible (refine plain_map ?_) | with_reducible (refine plain_ite ?_ ?_) | split | (dsimp only)))
    · refine plain_under hk ?_
      split <;> first | contradiction | (repeat' (first | with_reducible assumption | with_reducible exact plain_pure _ | with_reducible exact plain_pure' _ | with_reducible exact plain_stuck _ | ((with_reducible refine plain_uns ?_); exact trivial) | with_reducible exact plain_goPanic _ | with_reducible exact plain_load _ | with_reducible exact plain_store _ _ | with_reducible exact plain_freeze _ _ | with_reducible exact plain_frozen _ | with_reducible exact plain_choose _ | with_reducible exact plain_program | with_reducible exact plain_room _ | with_reducible exact plain_new trivial | ((with_reducible refine plain_getObj ?_ ?_); (focus (exact ghost_both (fun _ _ _ => rfl) (fun _ _ => rfl))); (intro _)) | with_reducible (refine plain_bind ?_ (fun _ => ?_)) | with_reducible (refine plain_map ?_) | with_reducible (refine plain_ite ?_ ?_) | split | (dsimp only)))
  unfold eqGuard
  cases op
  case eql => have hk := key h; (repeat' (first | with_reducible assumption | with_reducible exact plain_pure _ | with_reducible exact plain_pure' _ | with_reducible exact plain_stuck _ | ((with_reducible refine plain_uns ?_); exact trivial) | with_reducible exact plain_goPanic _ | with_reducible exact plain_load _ | with_reducible exact plain_store _ _ | with_reducible exact plain_freeze _ _ | with_reducible exact plain_frozen _ | with_reducible exact plain_choose _ | with_reducible exact plain_program | with_reducible exact plain_room _ | with_reducible exact plain_new trivial | with_reducible exact hk _ _ | ((with_reducible refine plain_getObj ?_ ?_); (focus (exact ghost_both (fun _ _ _ => rfl) (fun _ _ => rfl))); (intro _)) | with_reducible (refine plain_bind ?_ (fun _ => ?_)) | with_reducible (refine plain_map ?_) | with_reducible (refine plain_ite ?_ ?_) | split | (dsimp only)))
  case neq => have hk := key h; (repeat' (first | with_reducible assumption | with_reducible exact plain_pure _ | with_reducible exact plain_pure' _ | with_reducible exact plain_stuck _ | ((with_reducible refine plain_uns ?_); exact trivial) | with_reducible exact plain_goPanic _ | with_reducible exact plain_load _ | with_reducible exact plain_store _ _ | with_reducible exact plain_freeze _ _ | with_reducible exact plain_frozen _ | with_reducible exact plain_choose _ | with_reducible exact plain_program | with_reducible exact plain_room _ | with_reducible exact plain_new trivial | with_reducible exact hk _ _ | ((with_reducible refine plain_getObj ?_ ?_); (focus (exact ghost_both (fun _ _ _ => rfl) (fun _ _ => rfl))); (intro _)) | with_reducible (refine plain_bind ?_ (fun _ => ?_)) | with_reducible (refine plain_map ?_) | with_reducible (refine plain_ite ?_ ?_) | split | (dsimp only)))
  all_goals exact plain_pure _

theorem leaf_val {s : Sem Value} : Leaf P (fun x : Next => (∃ v, x = .value v) ∨ x = .skip ∨ ∃ f as, F f = true ∧ x = .enter f as) (do pure (.value (← s))) := leaf_bind s _ fun a => .inl ⟨a, rfl⟩
theorem leaf_unit {s : Sem Unit} : Leaf P (fun x : Next => (∃ v, x = .value v) ∨ x = .skip ∨ ∃ f as, F f = true ∧ x = .enter f as) (do s; pure .skip) := leaf_bind s _ fun _ => .inr (.inl rfl)

theorem exec_ok (hF : GoodF P F) {ρ : Operand → Value} (hρ : ∀ f, ρ (.func f) = .func (.func f) #[] #[]) {o : Oper} (ho : okOp P F o = true) :
    Plain P (execOp ρ o) ∧ Leaf P (fun x => (∃ v, x = .value v) ∨ x = .skip ∨ ∃ f as, F f = true ∧ x = .enter f as) (execOp ρ o) := by
  obtain ⟨dst, op, ty, pos, after, guard⟩ := o
  have V : ∀ {s : Sem Value}, Plain P s → Plain P (do pure (Next.value (← s)) : Sem Next) := fun h => plain_bind h fun _ => plain_pure _
  have U : ∀ {s : Sem Unit}, Plain P s → Plain P (do s; pure Next.skip : Sem Next) := fun h => plain_bind h fun _ => plain_pure _
  cases op
  case move => exact ⟨plain_pure _, .inl ⟨_, rfl⟩⟩
  case assign => exact ⟨plain_pure _, .inl ⟨_, rfl⟩⟩
  case pick c a b => exact ⟨plain_bind (plain_asBool _) fun _ => plain_pure _, leaf_bind (asBool _) _ fun _ => .inl ⟨_, rfl⟩⟩
  case alloc => exact ⟨V (plain_alloc _ _ _), leaf_val⟩
  case box => exact ⟨V (plain_box _ _), leaf_val⟩
  case build => exact ⟨V (plain_build _ _), leaf_val⟩
  case buildSlice => exact ⟨V (plain_buildSlice _ _ _), leaf_val⟩
  case load => exact ⟨V (plain_loadAt _ _), leaf_val⟩
  case store => exact ⟨U (plain_storeAt _ _ _), leaf_unit⟩
  case unOp => exact ⟨V (plain_unary _ _), leaf_val⟩
  case makeSlice => exact ⟨V (plain_makeSlice _ _ _), leaf_val⟩
  case slice => exact ⟨V (plain_sliceAt _ _ _ _ _), leaf_val⟩
  case fieldAddr => exact ⟨V (plain_fieldAt _ _ _), leaf_val⟩
  case field => exact ⟨V (plain_field _ _ _), leaf_val⟩
  case indexAddr => exact ⟨V (plain_indexAt _ _ _), leaf_val⟩
  case index => exact ⟨V (plain_index _ _ _), leaf_val⟩
  case extract => exact ⟨V (plain_extract _ _), leaf_val⟩
  case binOp op t x y t' =>
    have h1 : okBin P t op = true := ho
    refine ⟨V (plain_bind (plain_guard _ _ _ _ _ _ h1) fun _ => plain_binOp _ _ _ _ fun he => ?_), leaf_val⟩
    rcases he with rfl | rfl <;> exact isFlat_spec h1
  case convert s d x =>
    have h1 : ((isInt P s && isInt P d) || isBytes P s d) = true := ho
    rw [Bool.or_eq_true, Bool.and_eq_true] at h1
    rcases h1 with h1 | h1
    · obtain ⟨k, hk⟩ := isInt_spec h1.1
      obtain ⟨k', hk'⟩ := isInt_spec h1.2
      exact ⟨V (plain_conv hk hk' _), leaf_val⟩
    · obtain ⟨e, h2, h3, h4⟩ := isBytes_spec h1
      exact ⟨V (plain_convB h2 h3 h4 _), leaf_val⟩
  case call c =>
    obtain ⟨callee, args, ats⟩ := c
    cases callee with
    | builtin b =>
      have h1 : okBuiltin b = true := ho
      cases b
      case len => exact ⟨V (plain_len _ _ _), leaf_val⟩
      case cap => exact ⟨V (plain_cap _ _ _), leaf_val⟩
      case append => exact ⟨V (plain_append _ _ _), leaf_val⟩
      case copy => exact ⟨V (plain_copy _ _ _), leaf_val⟩
      all_goals cases h1
    | invoke => cases ho
    | value x =>
      cases x with
      | func f =>
        have hf : F f = true := ho
        have e : execOp ρ ⟨dst, .call ⟨.value (.func f), args, ats⟩, ty, pos, after, guard⟩ = callFunc f (#[] ++ args.map ρ ++ #[]) := by
          show (Deferred.ofValue (ρ (.func f)) (args.map ρ) >>= fun d => invoke d.target d.args) = _
          rw [hρ]
          rfl
        rw [e]
        obtain ⟨h1, h2⟩ := plain_callFunc hF hf (#[] ++ args.map ρ ++ #[])
        exact ⟨h1, h2 _ (.inr (.inr ⟨f, _, hf, rfl⟩))⟩
      | _ => cases ho
  all_goals cases ho
end
end Go.Lf

/-
  The operations that a lone run is made of: which they are, and what each leads to.
-/
import Derived.Test.YtkpcmfgeanlcnaaDoorLfC
import Derived.Control
import Derived.Conc.Own
import Derived.Conc.Listed
import Derived.Conc.Own3
namespace Go.Lf

/-- All that it can yield. -/
def Leaf (P : Program) {α : Type} (Q : α → Prop) : Sem α → Prop
  | .pure a => Q a
  | .load _ _ k => ∀ v, Leaf P Q (k v)
  | .store _ _ _ k => Leaf P Q k
  | .new _ k => ∀ r, Leaf P Q (k r)
  | .shape _ k => ∀ s, Leaf P Q (k s)
  | .freeze _ _ k => Leaf P Q k
  | .frozen _ k => ∀ b, Leaf P Q (k b)
  | .getObj _ k => ∀ o, Leaf P Q (k o)
  | .setObj _ _ k => Leaf P Q k
  | .choose _ k => ∀ n, Leaf P Q (k n)
  | .sys _ k => ∀ r, Leaf P Q (k r)
  | .program k => Leaf P Q (k P)
  | .mark _ k => Leaf P Q k
  | .halt _ => True
section
variable {P : Program} {α β : Type}
theorem leaf_bind {Q : β → Prop} : ∀ (s : Sem α) (f : α → Sem β), (∀ a, Leaf P Q (f a)) → Leaf P Q (s.bind f)
  | .pure a, _, h => h a
  | .load _ _ k, f, h => fun v => leaf_bind (k v) f h
  | .store _ _ _ k, f, h => leaf_bind k f h
  | .new _ k, f, h => fun v => leaf_bind (k v) f h
  | .shape _ k, f, h => fun v => leaf_bind (k v) f h
  | .freeze _ _ k, f, h => leaf_bind k f h
  | .frozen _ k, f, h => fun v => leaf_bind (k v) f h
  | .getObj _ k, f, h => fun v => leaf_bind (k v) f h
  | .setObj _ _ k, f, h => leaf_bind k f h
  | .choose _ k, f, h => fun v => leaf_bind (k v) f h
  | .sys _ k, f, h => fun v => leaf_bind (k v) f h
  | .program k, f, h => leaf_bind (k P) f h
  | .mark _ k, f, h => leaf_bind k f h
  | .halt _, _, _ => trivial
theorem leaf_run {Q : α → Prop} : ∀ (s : Sem α), Leaf P Q s → ∀ (w : World) (es : Array Event) (x : α) (w' : World) (es' : Array Event), s.runT P w es = (.ok x w', es') → Q x
  | .pure a, h, w, es, x, w', es', hr => by simp only [Sem.runT] at hr; cases hr; exact h
  | .load m a k, h, w, es, x, w', es', hr => by
    unfold Sem.runT at hr
    cases hc : w.cell? a with
    | some v => rw [hc] at hr; exact leaf_run (k v) (h v) _ _ _ _ _ hr
    | none =>
      rw [hc] at hr
      dsimp only at hr
      cases hf : w.farLoad P a (m == .atomic) with
      | ok r => rw [hf] at hr; exact leaf_run (k r.1) (h r.1) _ _ _ _ _ hr
      | error e => rw [hf] at hr; cases hr
  | .store m a v k, h, w, es, x, w', es', hr => by
    have key : (∀ (w : World), (Sem.store m a v k).runT P w es = match w.cell? a with
        | some _ => if w.frozen? a then (.halt (.unsupported (.unsafePointer "a write to bytes that a string shares")) w, es) else k.runT P (w.setCell a v) (es.push ⟨.cell a, true, m == Mode.atomic⟩)
        | none => match w.farStore P a v (m == Mode.atomic) with
          | .ok (w, touched) => k.runT P w (es ++ touched.toArray.map (⟨.cell ·, true, m == Mode.atomic⟩))
          | .error h => (.halt h w, es)) ∨ (∀ (w : World), (Sem.store m a v k).runT P w es = (.halt (.stuck "store: not the value of one cell") w, es)) := by
      cases v <;> first | exact .inr fun _ => rfl | exact .inl fun _ => rfl
    rcases key with key | key
    · rw [key] at hr
      cases hc : w.cell? a with
      | some u =>
        rw [hc] at hr
        dsimp only at hr
        split at hr
        · cases hr
        · exact leaf_run k h _ _ _ _ _ hr
      | none =>
        rw [hc] at hr
        dsimp only at hr
        cases hf : w.farStore P a v (m == .atomic) with
        | ok r => rw [hf] at hr; exact leaf_run k h _ _ _ _ _ hr
        | error e => rw [hf] at hr; cases hr
    · rw [key] at hr; cases hr
  | .new o k, h, w, es, x, w', es', hr => leaf_run (k w.heap.size) (h _) _ es x w' es' hr
  | .shape r k, h, w, es, x, w', es', hr => leaf_run (k (w.shape? r)) (h _) w es x w' es' hr
  | .freeze a n k, h, w, es, x, w', es', hr => leaf_run k h (w.freeze a n) es x w' es' hr
  | .frozen a k, h, w, es, x, w', es', hr => leaf_run (k (w.frozen? a)) (h _) w es x w' es' hr
  | .getObj r k, h, w, es, x, w', es', hr => by
    unfold Sem.runT at hr
    split at hr
    · cases hr
    · exact leaf_run (k _) (h _) _ _ _ _ _ hr
    · cases hr
  | .setObj r o k, h, w, es, x, w', es', hr => by
    unfold Sem.runT at hr
    split at hr
    · cases hr
    · exact leaf_run k h _ _ _ _ _ hr
    · cases hr
  | .choose q k, h, w, es, x, w', es', hr => by
    unfold Sem.runT at hr
    split at hr
    · exact leaf_run (k 0) (h _) _ _ _ _ _ hr
    · exact leaf_run (k _) (h _) _ _ _ _ _ hr
  | .sys c k, h, w, es, x, w', es', hr => leaf_run (k (w.sys c).1) (h _) (w.sys c).2 _ x w' es' hr
  | .program k, h, w, es, x, w', es', hr => leaf_run (k P) h w es x w' es' hr
  | .mark m k, h, w, es, x, w', es', hr => leaf_run k h w _ x w' es' hr
  | .halt _, _, _, _, _, _, _, hr => by simp only [Sem.runT] at hr; cases hr

theorem plain_listM {f : α → Sem β} (h : ∀ a, Plain P (f a)) : ∀ l : List α, Plain P (l.mapM f)
  | [] => trivial
  | a :: l => by
    rw [List.mapM_cons]
    exact plain_bind (h a) fun b => plain_bind (plain_listM h l) fun bs => plain_pure _
theorem plain_mapM {f : α → Sem β} (h : ∀ a, Plain P (f a)) (l : Array α) : Plain P (l.mapM f) := by
  rw [Array.mapM_eq_mapM_toList]
  exact plain_map (plain_listM h _)
end

def isInt (P : Program) (t : TypeId) : Bool := match P.underlying t with | some (.int _) => true | _ => false
theorem isInt_spec {P : Program} {t : TypeId} (h : isInt P t = true) : ∃ k, P.underlying t = some (.int k) := by
  unfold isInt at h
  split at h
  · exact ⟨_, by assumption⟩
  · cases h
/-- Numbers, truths, words. -/
def isFlat (P : Program) (t : TypeId) : Bool := match P.underlying t with | some (.int _) => true | some .string => true | some .bool => true | _ => false
theorem isFlat_spec {P : Program} {t : TypeId} (h : isFlat P t = true) : (∃ k, P.underlying t = some (.int k)) ∨ P.underlying t = some .string ∨ P.underlying t = some .bool := by
  unfold isFlat at h
  split at h
  · exact .inl ⟨_, by assumption⟩
  · exact .inr (.inl (by assumption))
  · exact .inr (.inr (by assumption))
  · cases h
/-- Bytes, made a word. -/
def isBytes (P : Program) (s d : TypeId) : Bool := match P.underlying s, P.underlying d with
  | some (.slice e), some .string => (match P.underlying e with | some (.int .u8) => true | _ => false)
  | _, _ => false
theorem isBytes_spec {P : Program} {s d : TypeId} (h : isBytes P s d = true) : ∃ e, P.underlying s = some (.slice e) ∧ P.underlying d = some .string ∧ P.underlying e = some (.int .u8) := by
  unfold isBytes at h
  split at h
  · rename_i e h1 h2
    split at h
    · exact ⟨e, h1, h2, by assumption⟩
    · cases h
  · cases h
def okBuiltin : Builtin → Bool
  | .len | .cap | .append | .copy | .min => true
  | _ => false
def okBin (P : Program) (t : TypeId) : BinOp → Bool
  | .eql | .neq => isFlat P t
  | _ => true
/-- An operation that a lone run may be made of; F: the functions that may be called. -/
def okOp (P : Program) (F : FuncId → Bool) (o : Oper) : Bool :=
  match o.op with
  | .move _ | .assign _ | .pick .. | .alloc _ | .box .. | .build .. | .buildSlice .. | .load .. | .store .. | .nilCheck _ | .unOp .. | .makeSlice .. | .makeFunc .. | .slice .. | .fieldAddr .. | .field .. | .indexAddr .. | .index .. | .extract .. => true
  | .binOp op t _ _ _ => okBin P t op
  | .convert s d _ => (isInt P s && isInt P d) || isBytes P s d
  | .call c => match c.callee with
    | .builtin b => okBuiltin b
    | .value (.func f) => F f
    | _ => false
  | _ => false
def okCode (P : Program) (F : FuncId → Bool) : Code → Bool
  | .skip | .ret | .exit _ => true
  | .seq a b => okCode P F a && okCode P F b
  | .cond _ a b => okCode P F a && okCode P F b
  | .block _ c => okCode P F c
  | .loop c => okCode P F c
  | .region _ ops _ => ops.all (okOp P F)
  | _ => false
/-- The functions that may be called are there, and of such code. -/
def GoodF (P : Program) (F : FuncId → Bool) : Prop := ∀ f, F f = true → ∃ fn c, P.funcs[f]? = some fn ∧ (fn.name == "runtime.NumGoroutine") = false ∧ fn.body = some c ∧ okCode P F c = true

section
variable {P : Program} {F : FuncId → Bool}
theorem plain_callFunc (hF : GoodF P F) {f : FuncId} (hf : F f = true) (as : Array Value) : Plain P (callFunc f as) ∧ ∀ Q : Next → Prop, Q (.enter f as) → Leaf P Q (callFunc f as) := by
  obtain ⟨fn, c, h1, h2, h3, _⟩ := hF f hf
  have hne : fn.body.isNone = false := by rw [h3]; rfl
  have e : ∀ (Q : Sem Next → Prop), Q (pure (.enter f as)) → Q ((fun p : Program => match p.funcs[f]? with
    | none => stuck "call: no such function"
    | some fn => if fn.name == "runtime.NumGoroutine" then pure .numGoroutine
      else if fn.body.isNone then (do
        mark (.extern f)
        if let some e := Extern.findNext fn then return ← e as
        match Extern.find fn with
        | some e => pure (.value (← e as))
        | none =>
          if fn.name.endsWith ".init" && !fn.name.startsWith "(" && !fn.name.startsWith "gosem." then pure (.value (.tuple #[]))
          else unsupported (.extern fn.name))
      else pure (.enter f as) : Program → Sem Next) P) := fun Q hQ => by
    dsimp only
    rw [h1]
    dsimp only
    rw [h2, hne]
    exact hQ
  exact ⟨e (Plain P) (plain_pure _), fun Q hQ => e (Leaf P Q) hQ⟩
end
attribute [local irreducible] Plain
section
variable {P : Program} {F : FuncId → Bool}
theorem plain_build (t : TypeId) (ps : Array (Nat × Value)) : Plain P (Instr.build t ps) := by
  unfold Instr.build
  (repeat' (first | with_reducible assumption | with_reducible exact plain_pure _ | with_reducible exact plain_pure' _ | with_reducible exact plain_stuck _ | ((with_reducible refine plain_uns ?_); exact trivial) | with_reducible exact plain_goPanic _ | with_reducible exact plain_load _ | with_reducible exact plain_store _ _ | with_reducible exact plain_freeze _ _ | with_reducible exact plain_frozen _ | with_reducible exact plain_choose _ | with_reducible exact plain_program | with_reducible exact plain_room _ | with_reducible exact plain_new trivial | with_reducible exact plain_zeroValue _ | with_reducible exact plain_underlying _ | with_reducible exact plain_sizeOf _ | with_reducible exact plain_mapM (fun _ => plain_bind (plain_sizeOf _) fun _ => plain_pure _) _ | ((with_reducible refine plain_getObj ?_ ?_); (focus (exact ghost_both (fun _ _ _ => rfl) (fun _ _ => rfl))); (intro _)) | with_reducible (refine plain_bind ?_ (fun _ => ?_)) | with_reducible (refine plain_map ?_) | with_reducible (refine plain_ite ?_ ?_) | split | (dsimp only)))
theorem plain_conv {s d : TypeId} {k k' : IntKind} (hs : P.underlying s = some (.int k)) (hd : P.underlying d = some (.int k')) (x : Value) : Plain P (convert s d x) := by
  unfold convert
  refine plain_under hs (plain_under hd ?_)
  have h1 : ∀ k n, Plain P (Conv.intToInt k n) := fun k n => by unfold Conv.intToInt; (repeat' (first | with_reducible assumption | with_reducible exact plain_pure _ | with_reducible exact plain_pure' _ | with_reducible exact plain_stuck _ | ((with_reducible refine plain_uns ?_); exact trivial) | with_reducible exact plain_goPanic _ | with_reducible exact plain_load _ | with_reducible exact plain_store _ _ | with_reducible exact plain_freeze _ _ | with_reducible exact plain_frozen _ | with_reducible exact plain_choose _ | with_reducible exact plain_program | with_reducible exact plain_room _ | with_reducible exact plain_new trivial | ((with_reducible refine plain_getObj ?_ ?_); (focus (exact ghost_both (fun _ _ _ => rfl) (fun _ _ => rfl))); (intro _)) | with_reducible (refine plain_bind ?_ (fun _ => ?_)) | with_reducible (refine plain_map ?_) | with_reducible (refine plain_ite ?_ ?_) | split | (dsimp only)))
  have h2 : ∀ a b k, Plain P (Conv.floatToInt a b k) := fun a b k => by unfold Conv.floatToInt; (repeat' (first | with_reducible assumption | with_reducible exact plain_pure _ | with_reducible exact plain_pure' _ | with_reducible exact plain_stuck _ | ((with_reducible refine plain_uns ?_); exact trivial) | with_reducible exact plain_goPanic _ | with_reducible exact plain_load _ | with_reducible exact plain_store _ _ | with_reducible exact plain_freeze _ _ | with_reducible exact plain_frozen _ | with_reducible exact plain_choose _ | with_reducible exact plain_program | with_reducible exact plain_room _ | with_reducible exact plain_new trivial | ((with_reducible refine plain_getObj ?_ ?_); (focus (exact ghost_both (fun _ _ _ => rfl) (fun _ _ => rfl))); (intro _)) | with_reducible (refine plain_bind ?_ (fun _ => ?_)) | with_reducible (refine plain_map ?_) | with_reducible (refine plain_ite ?_ ?_) | split | (dsimp only)))
  split <;> first | contradiction | (repeat' (first | with_reducible assumption | with_reducible exact plain_pure _ | with_reducible exact plain_pure' _ | with_reducible exact plain_stuck _ | ((with_reducible refine plain_uns ?_); exact trivial) | with_reducible exact plain_goPanic _ | with_reducible exact plain_load _ | with_reducible exact plain_store _ _ | with_reducible exact plain_freeze _ _ | with_reducible exact plain_frozen _ | with_reducible exact plain_choose _ | with_reducible exact plain_program | with_reducible exact plain_room _ | with_reducible exact plain_new trivial | with_reducible exact h1 _ _ | with_reducible exact h2 _ _ _ | ((with_reducible refine plain_getObj ?_ ?_); (focus (exact ghost_both (fun _ _ _ => rfl) (fun _ _ => rfl))); (intro _)) | with_reducible (refine plain_bind ?_ (fun _ => ?_)) | with_reducible (refine plain_map ?_) | with_reducible (refine plain_ite ?_ ?_) | split | (dsimp only)))
theorem plain_forIn {γ σ : Type} {f : γ → σ → Sem (ForInStep σ)} (h : ∀ a s, Plain P (f a s)) : ∀ (l : List γ) (s : σ), Plain P (forIn l s f)
  | [], s => by rw [List.forIn_nil]; exact plain_pure _
  | a :: l, s => by
    rw [List.forIn_cons]
    refine plain_bind (h a s) fun r => ?_
    cases r with
    | done b => exact plain_pure _
    | yield b => exact plain_forIn h l b
theorem plain_bytesTo (x : Value) : Plain P (Conv.bytesToString x) := by
  unfold Conv.bytesToString
  split
  · exact plain_pure _
  · refine plain_bind (plain_loadCells _ _) fun cs => plain_bind ?_ fun _ => plain_pure _
    rw [← Array.forIn_toList]
    refine plain_forIn (fun c s => ?_) _ _
    (repeat' (first | with_reducible assumption | with_reducible exact plain_pure _ | with_reducible exact plain_pure' _ | with_reducible exact plain_stuck _ | ((with_reducible refine plain_uns ?_); exact trivial) | with_reducible exact plain_goPanic _ | with_reducible exact plain_load _ | with_reducible exact plain_store _ _ | with_reducible exact plain_freeze _ _ | with_reducible exact plain_frozen _ | with_reducible exact plain_choose _ | with_reducible exact plain_program | with_reducible exact plain_room _ | with_reducible exact plain_new trivial | ((with_reducible refine plain_getObj ?_ ?_); (focus (exact ghost_both (fun _ _ _ => rfl) (fun _ _ => rfl))); (intro _)) | with_reducible (refine plain_bind ?_ (fun _ => ?_)) | with_reducible (refine plain_map ?_) | with_reducible (refine plain_ite ?_ ?_) | split | (dsimp only)))
  · (repeat' (first | with_reducible assumption | with_reducible exact plain_pure _ | with_reducible exact plain_pure' _ | with_reducible exact plain_stuck _ | ((with_reducible refine plain_uns ?_); exact trivial) | with_reducible exact plain_goPanic _ | with_reducible exact plain_load _ | with_reducible exact plain_store _ _ | with_reducible exact plain_freeze _ _ | with_reducible exact plain_frozen _ | with_reducible exact plain_choose _ | with_reducible exact plain_program | with_reducible exact plain_room _ | with_reducible exact plain_new trivial | ((with_reducible refine plain_getObj ?_ ?_); (focus (exact ghost_both (fun _ _ _ => rfl) (fun _ _ => rfl))); (intro _)) | with_reducible (refine plain_bind ?_ (fun _ => ?_)) | with_reducible (refine plain_map ?_) | with_reducible (refine plain_ite ?_ ?_) | split | (dsimp only)))
theorem plain_convB {s d e : TypeId} (hs : P.underlying s = some (.slice e)) (hd : P.underlying d = some .string) (he : P.underlying e = some (.int .u8)) (x : Value) : Plain P (convert s d x) := by
  unfold convert
  refine plain_under hs (plain_under hd ?_)
  have h1 : ∀ n, Plain P (Conv.intToString n) := fun n => by unfold Conv.intToString; (repeat' (first | with_reducible assumption | with_reducible exact plain_pure _ | with_reducible exact plain_pure' _ | with_reducible exact plain_stuck _ | ((with_reducible refine plain_uns ?_); exact trivial) | with_reducible exact plain_goPanic _ | with_reducible exact plain_load _ | with_reducible exact plain_store _ _ | with_reducible exact plain_freeze _ _ | with_reducible exact plain_frozen _ | with_reducible exact plain_choose _ | with_reducible exact plain_program | with_reducible exact plain_room _ | with_reducible exact plain_new trivial | ((with_reducible refine plain_getObj ?_ ?_); (focus (exact ghost_both (fun _ _ _ => rfl) (fun _ _ => rfl))); (intro _)) | with_reducible (refine plain_bind ?_ (fun _ => ?_)) | with_reducible (refine plain_map ?_) | with_reducible (refine plain_ite ?_ ?_) | split | (dsimp only)))
  have h2 : Plain P (underlying e >>= fun u => match u with | .int .u8 => Conv.bytesToString x | .int .i32 => Conv.runesToString x | _ => stuck "Convert: a slice of what to string?") := plain_under he (plain_bytesTo x)
  split
  all_goals first
    | contradiction
    | exact plain_pure _
    | exact h1 _
    | (rename_i hh _ _ _; cases hh; exact h2)
    | trivial
    | (repeat' (first | with_reducible assumption | with_reducible exact plain_pure _ | with_reducible exact plain_pure' _ | with_reducible exact plain_stuck _ | ((with_reducible refine plain_uns ?_); exact trivial) | with_reducible exact plain_goPanic _ | with_reducible exact plain_load _ | with_reducible exact plain_store _ _ | with_reducible exact plain_freeze _ _ | with_reducible exact plain_frozen _ | with_reducible exact plain_choose _ | with_reducible exact plain_program | with_reducible exact plain_room _ | with_reducible exact plain_new trivial | ((with_reducible refine plain_getObj ?_ ?_); (focus (exact ghost_both (fun _ _ _ => rfl) (fun _ _ => rfl))); (intro _)) | with_reducible (refine plain_bind ?_ (fun _ => ?_)) | with_reducible (refine plain_map ?_) | with_reducible (refine plain_ite ?_ ?_) | split | (dsimp only)))
theorem plain_guard (op : BinOp) (t : TypeId) (x y : Operand) (a b : Value) (h : okBin P t op = true) : Plain P (eqGuard op t x y a b) := by
  have key : isFlat P t = true → ∀ a b, Plain P (Op.eqGuardIn Op.maxDepth t a b) := fun hi a b => by
    show Plain P (Op.eqGuardIn (9999 + 1) t a b)
    unfold Op.eqGuardIn
    rcases isFlat_spec hi with ⟨k, hk⟩ | hk | hk
    · refine plain_under hk ?_
      split <;> first | contradiction | (repeat' (first | with_reducible assumption | with_reducible exact plain_pure _ | with_reducible exact plain_pure' _ | with_reducible exact plain_stuck _ | ((with_reducible refine plain_uns ?_); exact trivial) | with_reducible exact plain_goPanic _ | with_reducible exact plain_load _ | with_reducible exact plain_store _ _ | with_reducible exact plain_freeze _ _ | with_reducible exact plain_frozen _ | with_reducible exact plain_choose _ | with_reducible exact plain_program | with_reducible exact plain_room _ | with_reducible exact plain_new trivial | ((with_reducible refine plain_getObj ?_ ?_); (focus (exact ghost_both (fun _ _ _ => rfl) (fun _ _ => rfl))); (intro _)) | with_reducible (refine plain_bind ?_ (fun _ => ?_)) | with_reducible (refine plain_map ?_) | with_reducible (refine plain_ite ?_ ?_) | split | (dsimp only)))
    · refine plain_under hk ?_
      split <;> first | contradiction | (repeat' (first | with_reducible assumption | with_reducible exact plain_pure _ | with_reducible exact plain_pure' _ | with_reducible exact plain_stuck _ | ((with_reducible refine plain_uns ?_); exact trivial) | with_reducible exact plain_goPanic _ | with_reducible exact plain_load _ | with_reducible exact plain_store _ _ | with_reducible exact plain_freeze _ _ | with_reducible exact plain_frozen _ | with_reducible exact plain_choose _ | with_reducible exact plain_program | with_reducible exact plain_room _ | with_reducible exact plain_new trivial | ((with_reducible refine plain_getObj ?_ ?_); (focus (exact ghost_both (fun _ _ _ => rfl) (fun _ _ => rfl))); (intro _)) | with_reducible (refine plain_bind ?_ (fun _ => ?_)) | with_reducible (refine plain_map ?_) | with_reducible (refine plain_ite ?_ ?_) | split | (dsimp only)))
    · refine plain_under hk ?_
      split <;> first | contradiction | (repeat' (first | with_reducible assumption | with_reducible exact plain_pure _ | with_reducible exact plain_pure' _ | with_reducible exact plain_stuck _ | ((with_reducible refine plain_uns ?_); exact trivial) | with_reducible exact plain_goPanic _ | with_reducible exact plain_load _ | with_reducible exact plain_store _ _ | with_reducible exact plain_freeze _ _ | with_reducible exact plain_frozen _ | with_reducible exact plain_choose _ | with_reducible exact plain_program | with_reducible exact plain_room _ | with_reducible exact plain_new trivial | ((with_reducible refine plain_getObj ?_ ?_); (focus (exact ghost_both (fun _ _ _ => rfl) (fun _ _ => rfl))); (intro _)) | with_reducible (refine plain_bind ?_ (fun _ => ?_)) | with_reducible (refine plain_map ?_) | with_reducible (refine plain_ite ?_ ?_) | split | (dsimp only)))
  unfold eqGuard
  cases op
  case eql => have hk := key h; (repeat' (first | with_reducible assumption | with_reducible exact plain_pure _ | with_reducible exact plain_pure' _ | with_reducible exact plain_stuck _ | ((with_reducible refine plain_uns ?_); exact trivial) | with_reducible exact plain_goPanic _ | with_reducible exact plain_load _ | with_reducible exact plain_store _ _ | with_reducible exact plain_freeze _ _ | with_reducible exact plain_frozen _ | with_reducible exact plain_choose _ | with_reducible exact plain_program | with_reducible exact plain_room _ | with_reducible exact plain_new trivial | with_reducible exact hk _ _ | ((with_reducible refine plain_getObj ?_ ?_); (focus (exact ghost_both (fun _ _ _ => rfl) (fun _ _ => rfl))); (intro _)) | with_reducible (refine plain_bind ?_ (fun _ => ?_)) | with_reducible (refine plain_map ?_) | with_reducible (refine plain_ite ?_ ?_) | split | (dsimp only)))
  case neq => have hk := key h; (repeat' (first | with_reducible assumption | with_reducible exact plain_pure _ | with_reducible exact plain_pure' _ | with_reducible exact plain_stuck _ | ((with_reducible refine plain_uns ?_); exact trivial) | with_reducible exact plain_goPanic _ | with_reducible exact plain_load _ | with_reducible exact plain_store _ _ | with_reducible exact plain_freeze _ _ | with_reducible exact plain_frozen _ | with_reducible exact plain_choose _ | with_reducible exact plain_program | with_reducible exact plain_room _ | with_reducible exact plain_new trivial | with_reducible exact hk _ _ | ((with_reducible refine plain_getObj ?_ ?_); (focus (exact ghost_both (fun _ _ _ => rfl) (fun _ _ => rfl))); (intro _)) | with_reducible (refine plain_bind ?_ (fun _ => ?_)) | with_reducible (refine plain_map ?_) | with_reducible (refine plain_ite ?_ ?_) | split | (dsimp only)))
  all_goals exact plain_pure _

theorem plain_min2 (x y : Value) : Plain P (Builtin.min2 x y) := by
  unfold Builtin.min2
  split <;> (repeat' (first | with_reducible assumption | with_reducible exact plain_pure _ | with_reducible exact plain_pure' _ | with_reducible exact plain_stuck _ | ((with_reducible refine plain_uns ?_); exact trivial) | with_reducible exact plain_goPanic _ | with_reducible exact plain_load _ | with_reducible exact plain_store _ _ | with_reducible exact plain_freeze _ _ | with_reducible exact plain_frozen _ | with_reducible exact plain_choose _ | with_reducible exact plain_program | with_reducible exact plain_room _ | with_reducible exact plain_new trivial | with_reducible exact plain_stringOp _ _ _ | with_reducible exact plain_asBool _ | ((with_reducible refine plain_getObj ?_ ?_); (focus (exact ghost_both (fun _ _ _ => rfl) (fun _ _ => rfl))); (intro _)) | with_reducible (refine plain_bind ?_ (fun _ => ?_)) | with_reducible (refine plain_map ?_) | with_reducible (refine plain_ite ?_ ?_) | split | (dsimp only)))
theorem plain_foldMin : ∀ (l : List Value) (x : Value), Plain P (l.foldlM Builtin.min2 x)
  | [], x => by rw [List.foldlM_nil]; exact plain_pure _
  | y :: l, x => by
    rw [List.foldlM_cons]
    exact plain_bind (plain_min2 x y) fun r => plain_foldMin l r
theorem plain_min (ts : Array TypeId) (t : TypeId) (as : Array Value) : Plain P (Builtin.min_ ts t as) := by
  unfold Builtin.min_
  split
  · (repeat' (first | with_reducible assumption | with_reducible exact plain_pure _ | with_reducible exact plain_pure' _ | with_reducible exact plain_stuck _ | ((with_reducible refine plain_uns ?_); exact trivial) | with_reducible exact plain_goPanic _ | with_reducible exact plain_load _ | with_reducible exact plain_store _ _ | with_reducible exact plain_freeze _ _ | with_reducible exact plain_frozen _ | with_reducible exact plain_choose _ | with_reducible exact plain_program | with_reducible exact plain_room _ | with_reducible exact plain_new trivial | ((with_reducible refine plain_getObj ?_ ?_); (focus (exact ghost_both (fun _ _ _ => rfl) (fun _ _ => rfl))); (intro _)) | with_reducible (refine plain_bind ?_ (fun _ => ?_)) | with_reducible (refine plain_map ?_) | with_reducible (refine plain_ite ?_ ?_) | split | (dsimp only)))
  · exact plain_foldMin _ _
theorem plain_followBlind : ∀ (path : List FieldStep) (t : TypeId) (x : Option Value), Plain P (followBlind path t x)
  | [], _, _ => plain_pure _
  | s :: rest, _, _ => by
    unfold followBlind
    have ih := plain_followBlind rest
    (repeat' (first | with_reducible assumption | with_reducible exact plain_pure _ | with_reducible exact plain_pure' _ | with_reducible exact plain_stuck _ | ((with_reducible refine plain_uns ?_); exact trivial) | with_reducible exact plain_goPanic _ | with_reducible exact plain_load _ | with_reducible exact plain_store _ _ | with_reducible exact plain_freeze _ _ | with_reducible exact plain_frozen _ | with_reducible exact plain_choose _ | with_reducible exact plain_program | with_reducible exact plain_room _ | with_reducible exact plain_new trivial | with_reducible exact plain_underlying _ | with_reducible exact plain_part _ _ _ | with_reducible exact ih _ _ | ((with_reducible refine plain_getObj ?_ ?_); (focus (exact ghost_both (fun _ _ _ => rfl) (fun _ _ => rfl))); (intro _)) | with_reducible (refine plain_bind ?_ (fun _ => ?_)) | with_reducible (refine plain_map ?_) | with_reducible (refine plain_ite ?_ ?_) | split | (dsimp only)))
theorem plain_nilAhead : ∀ (n : Nat) (t : TypeId) (v : Value) (name : String), Plain P (nilAhead n t v name)
  | 0, _, _, _ => plain_pure _
  | n + 1, t, v, name => by
    unfold nilAhead
    have ih := plain_nilAhead n
    (repeat' (first | with_reducible assumption | with_reducible exact plain_pure _ | with_reducible exact plain_pure' _ | with_reducible exact plain_stuck _ | ((with_reducible refine plain_uns ?_); exact trivial) | with_reducible exact plain_goPanic _ | with_reducible exact plain_load _ | with_reducible exact plain_store _ _ | with_reducible exact plain_freeze _ _ | with_reducible exact plain_frozen _ | with_reducible exact plain_choose _ | with_reducible exact plain_program | with_reducible exact plain_room _ | with_reducible exact plain_new trivial | with_reducible exact plain_typeInfo _ | with_reducible exact plain_underlying _ | with_reducible exact plain_followBlind _ _ _ | with_reducible exact ih _ _ _ | ((with_reducible refine plain_getObj ?_ ?_); (focus (exact ghost_both (fun _ _ _ => rfl) (fun _ _ => rfl))); (intro _)) | with_reducible (refine plain_bind ?_ (fun _ => ?_)) | with_reducible (refine plain_map ?_) | with_reducible (refine plain_ite ?_ ?_) | split | (dsimp only)))
theorem leaf_nil {Q : Next → Prop} : Leaf P Q (runtimePanic .nilDeref : Sem Next) := by
  unfold runtimePanic
  exact leaf_bind program _ fun p => trivial
theorem leaf_val {s : Sem Value} : Leaf P (fun x : Next => (∃ v, x = .value v) ∨ x = .skip ∨ ∃ f as, F f = true ∧ x = .enter f as) (do pure (.value (← s))) := leaf_bind s _ fun a => .inl ⟨a, rfl⟩
theorem leaf_unit {s : Sem Unit} : Leaf P (fun x : Next => (∃ v, x = .value v) ∨ x = .skip ∨ ∃ f as, F f = true ∧ x = .enter f as) (do s; pure .skip) := leaf_bind s _ fun _ => .inr (.inl rfl)

theorem exec_ok (hF : GoodF P F) {ρ : Operand → Value} (hρ : ∀ f, ρ (.func f) = .func (.func f) #[] #[]) {o : Oper} (ho : okOp P F o = true) :
    Plain P (execOp ρ o) ∧ Leaf P (fun x => (∃ v, x = .value v) ∨ x = .skip ∨ ∃ f as, F f = true ∧ x = .enter f as) (execOp ρ o) := by
  obtain ⟨dst, op, ty, pos, after, guard⟩ := o
  have V : ∀ {s : Sem Value}, Plain P s → Plain P (do pure (Next.value (← s)) : Sem Next) := fun h => plain_bind h fun _ => plain_pure _
  have U : ∀ {s : Sem Unit}, Plain P s → Plain P (do s; pure Next.skip : Sem Next) := fun h => plain_bind h fun _ => plain_pure _
  cases op
  case move => exact ⟨plain_pure _, .inl ⟨_, rfl⟩⟩
  case assign => exact ⟨plain_pure _, .inl ⟨_, rfl⟩⟩
  case pick c a b => exact ⟨plain_bind (plain_asBool _) fun _ => plain_pure _, leaf_bind (asBool _) _ fun _ => .inl ⟨_, rfl⟩⟩
  case alloc => exact ⟨V (plain_alloc _ _ _), leaf_val⟩
  case box => exact ⟨V (plain_box _ _), leaf_val⟩
  case build => exact ⟨V (plain_build _ _), leaf_val⟩
  case buildSlice => exact ⟨V (plain_buildSlice _ _ _), leaf_val⟩
  case load => exact ⟨V (plain_loadAt _ _), leaf_val⟩
  case store => exact ⟨U (plain_storeAt _ _ _), leaf_unit⟩
  case nilCheck x =>
    have e : execOp ρ ⟨dst, .nilCheck x, ty, pos, after, guard⟩ = (match ρ x with
      | .pointer none | .nilIface | .nilFunc => runtimePanic .nilDeref
      | .func (.method name) first captured =>
        match (first[0]? : Option Value) with
        | some .nilIface => runtimePanic .nilDeref
        | some (.iface t w) => do
          if (← nilAhead ((← program).types.size + Made.depth) t w name) != some false then
            unsupported (.noEntry "op/nilCheck.the method's receiver behind this interface value is a nil pointer, or cannot be seen to be none, and the arguments act or may panic (ledger 612)")
          pure (.value (.func (.method name) first captured))
        | _ => pure (.value (.func (.method name) first captured))
      | x => pure (.value x)) := rfl
    rw [e]
    have np : Plain P (runtimePanic .nilDeref : Sem Next) := plain_runtimePanic _
    have nl : Leaf P (fun x => (∃ v, x = .value v) ∨ x = .skip ∨ ∃ f as, F f = true ∧ x = .enter f as) (runtimePanic .nilDeref : Sem Next) := leaf_nil
    split
    · exact ⟨np, nl⟩
    · exact ⟨np, nl⟩
    · exact ⟨np, nl⟩
    · split
      · exact ⟨np, nl⟩
      · constructor
        · (repeat' (first | with_reducible assumption | with_reducible exact plain_pure _ | with_reducible exact plain_pure' _ | with_reducible exact plain_stuck _ | ((with_reducible refine plain_uns ?_); exact trivial) | with_reducible exact plain_goPanic _ | with_reducible exact plain_load _ | with_reducible exact plain_store _ _ | with_reducible exact plain_freeze _ _ | with_reducible exact plain_frozen _ | with_reducible exact plain_choose _ | with_reducible exact plain_program | with_reducible exact plain_room _ | with_reducible exact plain_new trivial | with_reducible exact plain_nilAhead _ _ _ _ | ((with_reducible refine plain_getObj ?_ ?_); (focus (exact ghost_both (fun _ _ _ => rfl) (fun _ _ => rfl))); (intro _)) | with_reducible (refine plain_bind ?_ (fun _ => ?_)) | with_reducible (refine plain_map ?_) | with_reducible (refine plain_ite ?_ ?_) | split | (dsimp only)))
        · refine leaf_bind program _ fun _ => leaf_bind (nilAhead _ _ _ _) _ fun r => ?_
          split
          · exact leaf_bind (unsupported _) _ fun _ => Or.inl ⟨_, rfl⟩
          · exact Or.inl ⟨_, rfl⟩
      · exact ⟨plain_pure _, .inl ⟨_, rfl⟩⟩
    · exact ⟨plain_pure _, .inl ⟨_, rfl⟩⟩
  case unOp => exact ⟨V (plain_unary _ _), leaf_val⟩
  case makeSlice => exact ⟨V (plain_makeSlice _ _ _), leaf_val⟩
  case makeFunc => exact ⟨V (plain_pure _), leaf_val⟩
  case slice => exact ⟨V (plain_sliceAt _ _ _ _ _), leaf_val⟩
  case fieldAddr => exact ⟨V (plain_fieldAt _ _ _), leaf_val⟩
  case field => exact ⟨V (plain_field _ _ _), leaf_val⟩
  case indexAddr => exact ⟨V (plain_indexAt _ _ _), leaf_val⟩
  case index => exact ⟨V (plain_index _ _ _), leaf_val⟩
  case extract => exact ⟨V (plain_extract _ _), leaf_val⟩
  case binOp op t x y t' =>
    have h1 : okBin P t op = true := ho
    refine ⟨V (plain_bind (plain_guard _ _ _ _ _ _ h1) fun _ => plain_binOp _ _ _ _ fun he => ?_), leaf_val⟩
    rcases he with rfl | rfl <;> exact isFlat_spec h1
  case convert s d x =>
    have h1 : ((isInt P s && isInt P d) || isBytes P s d) = true := ho
    rw [Bool.or_eq_true, Bool.and_eq_true] at h1
    rcases h1 with h1 | h1
    · obtain ⟨k, hk⟩ := isInt_spec h1.1
      obtain ⟨k', hk'⟩ := isInt_spec h1.2
      exact ⟨V (plain_conv hk hk' _), leaf_val⟩
    · obtain ⟨e, h2, h3, h4⟩ := isBytes_spec h1
      exact ⟨V (plain_convB h2 h3 h4 _), leaf_val⟩
  case call c =>
    obtain ⟨callee, args, ats⟩ := c
    cases callee with
    | builtin b =>
      have h1 : okBuiltin b = true := ho
      cases b
      case len => exact ⟨V (plain_len _ _ _), leaf_val⟩
      case cap => exact ⟨V (plain_cap _ _ _), leaf_val⟩
      case append => exact ⟨V (plain_append _ _ _), leaf_val⟩
      case copy => exact ⟨V (plain_copy _ _ _), leaf_val⟩
      case min => exact ⟨V (plain_min _ _ _), leaf_val⟩
      all_goals cases h1
    | invoke => cases ho
    | value x =>
      cases x with
      | func f =>
        have hf : F f = true := ho
        have e : execOp ρ ⟨dst, .call ⟨.value (.func f), args, ats⟩, ty, pos, after, guard⟩ = callFunc f (#[] ++ args.map ρ ++ #[]) := by
          show (Deferred.ofValue (ρ (.func f)) (args.map ρ) >>= fun d => invoke d.target d.args) = _
          rw [hρ]
          rfl
        rw [e]
        obtain ⟨h1, h2⟩ := plain_callFunc hF hf (#[] ++ args.map ρ ++ #[])
        exact ⟨h1, h2 _ (.inr (.inr ⟨f, _, hf, rfl⟩))⟩
      | _ => cases ho
  all_goals cases ho
end
end Go.Lf

/-
  A lone run's frames: a step of such a goroutine is a step on its own frame, a call, or a return; it is the same with more to do behind, in another world that is like it.
-/
namespace Go.Lf
open Go.Conc

section
variable (P : Program) (F : FuncId → Bool)
/-- What may stand on a frame's list. -/
def TItem : Item → Prop
  | .code c => okCode P F c = true
  | .inBlock _ => True
  | .inLoop c => okCode P F c = true
  | .inRegion ops _ => ops.all (okOp P F) = true
  | _ => False
structure TFr (f : Frame) : Prop where
  fn : ∃ fn, P.funcs[f.fn]? = some fn
  kind : f.kind = .normal
  defers : f.defers = []
  round : f.roundOf = none
  todo : ∀ it ∈ f.todo, TItem P F it
end

/-- More to do behind. -/
def extB (K : List Item) (f : Frame) : Frame := { f with todo := f.todo ++ K }
theorem extB_nil (f : Frame) : extB [] f = f := by simp [extB]

/-- The events of a step, in the order of the two worlds. -/
def EvsP (X : Nat → Prop) (w : World) (es : Array Event) : Prop := ∀ e ∈ es, EvP X w e

section
variable {P : Program} {F : FuncId → Bool} {X : Nat → Prop} {Y : Nat → Option Obj}

/-- The step of one frame: three ways. -/
inductive Way (P : Program) (F : FuncId → Bool) (f : Frame) (cs : List Frame) (w w' : World) (es : Array Event) (g' : Goroutine) : Prop
  | here {f' : Frame} : g' = G f' cs → TFr P F f' → (f'.mode = .run ∨ f'.mode = .returning) → (∀ K cs2, (f.todo = [] → K = []) → stepG P true (G (extB K f) cs2) w = .go (G (extB K f') cs2) w' es) → Way P F f cs w w' es g'
  | call {e : Frame} : g' = G e (f :: cs) → TFr P F e → e.mode = .run → f.todo ≠ [] → (∀ K cs2, stepG P true (G (extB K f) cs2) w = .go (G e (extB K f :: cs2)) w' es) → Way P F f cs w w' es g'
  | back {c : Frame} {r : List Frame} {v : Value} : cs = c :: r → g' = G (c.finish v) r → f.mode = .returning → (∀ c2 r2, stepG P true (G f (c2 :: r2)) w = .go (G (c2.finish v) r2) w' es) → Way P F f cs w w' es g'

theorem exitTo_app {id : Nat} {K : List Item} : ∀ {k k' : List Item}, exitTo id k = some k' → exitTo id (k ++ K) = some (k' ++ K)
  | [], _, h => by simp [exitTo] at h
  | x :: k, k', h => by
    cases x <;> simp only [exitTo, List.cons_append] at h ⊢ <;> first
      | exact exitTo_app h
      | (split at h
         · rename_i hc; rw [if_pos hc]; cases h; rfl
         · rename_i hc; rw [if_neg hc]; exact exitTo_app h)
theorem exitTo_mem {id : Nat} : ∀ {k k' : List Item}, exitTo id k = some k' → ∀ it ∈ k', it ∈ k
  | [], _, h => by simp [exitTo] at h
  | x :: k, k', h => by
    intro it hit
    cases x <;> simp only [exitTo] at h <;> first
      | exact List.mem_cons_of_mem _ (exitTo_mem h it hit)
      | (split at h
         · cases h; exact List.mem_cons_of_mem _ hit
         · exact List.mem_cons_of_mem _ (exitTo_mem h it hit))

/-- The step reads the tape only as far as it draws from it. -/
def Tp (P : Program) (g : Goroutine) (v : World) (g' : Goroutine) (v' : World) (es : Array Event) : Prop :=
  v'.tape = v.tape ∧ v.drawn ≤ v'.drawn ∧ ∀ τ : Nat → Question → Nat, (∀ p, v.drawn ≤ p → p < v'.drawn → τ p = v.tape p) → stepG P true g { v with tape := τ } = .go g' { v' with tape := τ } es

/-- What is said of a step. -/
def Stepd (P : Program) (F : FuncId → Bool) (X : Nat → Prop) (Y : Nat → Option Obj) (f : Frame) (cs : List Frame) (w v : World) : Prop :=
  (∃ o v' es, stepG P true (G f cs) v = .ended o v' es) ∨ (∃ ch v' es, stepG P true (G f cs) v = .go (G { f with mode := .panicking ch } cs) v' es) ∨
  ∃ g' v' es w', stepG P true (G f cs) v = .go g' v' es ∧ Tp P (G f cs) v g' v' es ∧ Sim X Y w' v' ∧ w.heap.size ≤ w'.heap.size ∧ EvsP X w' es ∧ Way P F f cs w w' es g'

theorem ctl {f f' : Frame} {cs : List Frame} {w v : World} (hs : Sim X Y w v) (h : ∀ K cs2 u, (f.todo = [] → K = []) → stepG P true (G (extB K f) cs2) u = .go (G (extB K f') cs2) u #[]) (hT : TFr P F f') (hm : f'.mode = .run ∨ f'.mode = .returning) : Stepd P F X Y f cs w v := by
  have key : ∀ u, stepG P true (G f cs) u = .go (G f' cs) u #[] := fun u => by
    have := h [] cs u (fun _ => rfl)
    rwa [extB_nil, extB_nil] at this
  exact .inr (.inr ⟨G f' cs, v, #[], w, key v, ⟨rfl, Nat.le_refl _, fun τ _ => key _⟩, hs, Nat.le_refl _, fun e he => by simp at he, .here rfl hT hm fun K cs2 hk => h K cs2 w hk⟩)

theorem eval_ext (K : List Item) (f : Frame) : (extB K f).eval = f.eval := by
  funext x
  cases x <;> rfl

set_option maxHeartbeats 1000000 in
theorem tstep (hF : GoodF P F) {f : Frame} {cs : List Frame} {w v : World} (hT : TFr P F f) (hm : f.mode = .run) (hs : Sim X Y w v) : Stepd P F X Y f cs w v := by
  obtain ⟨fn, tmps, todo, defers, mode, kind, round⟩ := f
  obtain ⟨⟨fun0, hfn⟩, hk, hd, hr, ht⟩ := hT
  dsimp only at hfn hk hd hr ht hm
  subst hk hd hr hm
  have mk : ∀ {todo' : List Item} {mode' : FrameMode}, (∀ it ∈ todo', TItem P F it) → TFr P F ⟨fn, tmps, todo', [], mode', .normal, none⟩ := fun h => ⟨⟨fun0, hfn⟩, rfl, rfl, rfl, h⟩
  cases todo with
  | nil => exact ctl (f' := ⟨fn, tmps, [], [], .returning, .normal, none⟩) hs (fun K cs2 u hK => by rw [hK rfl]; rfl) (mk (by simp)) (.inr rfl)
  | cons it k =>
    have hit := ht it (by simp)
    have hk : ∀ x ∈ k, TItem P F x := fun x hx => ht x (by simp [hx])
    have two : ∀ {a : Item}, TItem P F a → ∀ x ∈ a :: k, TItem P F x := fun ha x hx => by
      rcases List.mem_cons.1 hx with rfl | hx
      · exact ha
      · exact hk x hx
    cases it with
    | code c =>
      cases c with
      | skip => exact ctl (f' := ⟨fn, tmps, k, [], .run, .normal, none⟩) hs (fun K cs2 u _ => rfl) (mk hk) (.inl rfl)
      | ret => exact ctl (f' := ⟨fn, tmps, .code .ret :: k, [], .returning, .normal, none⟩) hs (fun K cs2 u _ => rfl) (mk ht) (.inr rfl)
      | seq a b =>
        have hab : okCode P F a = true ∧ okCode P F b = true := by simpa [TItem, okCode] using hit
        exact ctl (f' := ⟨fn, tmps, .code a :: .code b :: k, [], .run, .normal, none⟩) hs (fun K cs2 u _ => rfl) (mk fun x hx => by
          rcases List.mem_cons.1 hx with rfl | hx
          · exact hab.1
          · exact two (a := .code b) hab.2 x hx) (.inl rfl)
      | cond c a b =>
        have hab : okCode P F a = true ∧ okCode P F b = true := by simpa [TItem, okCode] using hit
        cases he : (⟨fn, tmps, .code (.cond c a b) :: k, [], .run, .normal, none⟩ : Frame).eval c with
        | bool t =>
          refine ctl (f' := ⟨fn, tmps, .code (if t then a else b) :: k, [], .run, .normal, none⟩) hs (fun K cs2 u _ => ?_) (mk (two (a := .code (if t then a else b)) (by cases t <;> simp [TItem, hab]))) (.inl rfl)
          have he' : (extB K ⟨fn, tmps, .code (.cond c a b) :: k, [], .run, .normal, none⟩).eval c = .bool t := by rw [eval_ext]; exact he
          simp only [extB, List.cons_append] at he'
          simp only [G, extB, stepG, stepG.exec, List.cons_append, he']
        | _ => exact .inl ⟨_, _, _, by simp only [G, stepG, stepG.exec, he]; rfl⟩
      | block id c => exact ctl (f' := ⟨fn, tmps, .code c :: .inBlock id :: k, [], .run, .normal, none⟩) hs (fun K cs2 u _ => rfl) (mk fun x hx => by
          rcases List.mem_cons.1 hx with rfl | hx
          · exact hit
          · exact two (a := .inBlock id) trivial x hx) (.inl rfl)
      | loop c => exact ctl (f' := ⟨fn, tmps, .code c :: .inLoop c :: k, [], .run, .normal, none⟩) hs (fun K cs2 u _ => rfl) (mk fun x hx => by
          rcases List.mem_cons.1 hx with rfl | hx
          · exact hit
          · exact two (a := .inLoop c) hit x hx) (.inl rfl)
      | exit id =>
        cases he : exitTo id k with
        | none => exact .inl ⟨_, _, _, by simp only [G, stepG, stepG.exec, he, Option.elim]; rfl⟩
        | some k' => exact ctl (f' := ⟨fn, tmps, k', [], .run, .normal, none⟩) hs (fun K cs2 u _ => by simp only [G, extB, stepG, stepG.exec, List.cons_append, exitTo_app he, Option.elim]) (mk fun x hx => hk x (exitTo_mem he x hx)) (.inl rfl)
      | region id ops draw =>
        have ho : ops.all (okOp P F) = true := hit
        cases draw with
        | false => exact ctl (f' := ⟨fn, tmps, .inRegion ops (List.range ops.size) :: k, [], .run, .normal, none⟩) hs (fun K cs2 u _ => rfl) (mk (two (a := .inRegion ops _) ho)) (.inl rfl)
        | true =>
          have hc : ∀ u : World, (choose (.order fn id)).run P u = .ok (u.tape u.drawn (.order fn id)) { u with drawn := u.drawn + 1 } := fun u => rfl
          have et : w.tape w.drawn (.order fn id) = v.tape v.drawn (.order fn id) := by simpa using hs.str 0 (.order fn id)
          refine .inr (.inr ⟨_, { v with drawn := v.drawn + 1 }, #[], { w with drawn := w.drawn + 1 }, by simp only [G, stepG, stepG.exec, Bool.not_true, Bool.false_eq_true, if_false, hc], ⟨rfl, Nat.le_succ _, fun τ hτ => by simp only [G, stepG, stepG.exec, Bool.not_true, Bool.false_eq_true, if_false, hc, hτ v.drawn (Nat.le_refl _) (Nat.lt_succ_self _)]⟩, hs.draw, Nat.le_refl _, fun e he => by simp at he,
            .here (f' := ⟨fn, tmps, .inRegion ops (Region.schedule (P.follows .mixedOrders) ops (v.tape v.drawn (.order fn id))) :: k, [], .run, .normal, none⟩) rfl (mk (two (a := .inRegion ops _) ho)) (.inl rfl) fun K cs2 _ => ?_⟩)
          simp only [G, extB, stepG, stepG.exec, List.cons_append, Bool.not_true, Bool.false_eq_true, if_false, hc, et]
      | _ => cases hit
    | inBlock id => exact ctl (f' := ⟨fn, tmps, k, [], .run, .normal, none⟩) hs (fun K cs2 u _ => rfl) (mk hk) (.inl rfl)
    | inLoop c => exact ctl (f' := ⟨fn, tmps, .code c :: .inLoop c :: k, [], .run, .normal, none⟩) hs (fun K cs2 u _ => rfl) (mk fun x hx => by
          rcases List.mem_cons.1 hx with rfl | hx
          · exact hit
          · exact two (a := .inLoop c) hit x hx) (.inl rfl)
    | inRegion ops is =>
      cases is with
      | nil => exact ctl (f' := ⟨fn, tmps, k, [], .run, .normal, none⟩) hs (fun K cs2 u _ => rfl) (mk hk) (.inl rfl)
      | cons i rest =>
        have ho : ops.all (okOp P F) = true := hit
        cases hw : ((ops[i]?).map (Region.wanted · (yielded ops tmps))).getD false with
        | false =>
          refine ctl (f' := (⟨fn, tmps, .inRegion ops (i :: rest) :: k, [], .run, .normal, none⟩ : Frame).finish undef) hs (fun K cs2 u _ => ?_) ⟨⟨fun0, hfn⟩, rfl, rfl, rfl, two (a := .inRegion ops _) ho⟩ (.inl rfl)
          simp only [G, extB, stepG, stepG.exec, List.cons_append, hw, Bool.false_eq_true, if_false, Frame.finish]
        | true =>
          cases hoi : ops[i]? with
          | none => rw [hoi] at hw; cases hw
          | some o =>
            have hok : okOp P F o = true := Array.all_eq_true_iff_forall_mem.1 ho o (Array.mem_of_getElem? hoi)
            have eA : ∀ K cs2 u, stepG P true (G (extB K ⟨fn, tmps, .inRegion ops (i :: rest) :: k, [], .run, .normal, none⟩) cs2) u =
                stepG.apply P true (extB K ⟨fn, tmps, .inRegion ops (i :: rest) :: k, [], .run, .normal, none⟩) cs2 none (execOp (⟨fn, tmps, .inRegion ops (i :: rest) :: k, [], .run, .normal, none⟩ : Frame).eval o) u := fun K cs2 u => by
              rw [← eval_ext K]
              rw [hoi] at hw
              simp only [G, extB, stepG, stepG.exec, List.cons_append, stepG.oper, Frame.oper?, hoi]
              rw [if_pos hw]
            obtain ⟨hpl, hlf⟩ := exec_ok hF (ρ := (⟨fn, tmps, .inRegion ops (i :: rest) :: k, [], .run, .normal, none⟩ : Frame).eval) (fun _ => rfl) hok
            generalize execOp (⟨fn, tmps, .inRegion ops (i :: rest) :: k, [], .run, .normal, none⟩ : Frame).eval o = sem at eA hpl hlf
            have eA0 := eA [] cs v
            rw [extB_nil] at eA0
            cases hrun : sem.runT P v #[] with
            | mk r es =>
              cases r with
              | halt h v' =>
                have hh := plain_halts sem w v #[] h v' es hpl hs hrun
                cases h with
                | panic u =>
                  exact .inr (.inl ⟨_, _, _, by rw [eA0]; simp only [stepG.apply, if_true, hrun]; rfl⟩)
                | stuck s => exact .inl ⟨_, _, _, by rw [eA0]; simp only [stepG.apply, if_true, hrun]; rfl⟩
                | unsupported u =>
                  cases u with
                  | initOrder b => exact hh.elim
                  | _ => exact .inl ⟨_, _, _, by rw [eA0]; simp only [stepG.apply, if_true, hrun]; rfl⟩
                | _ => exact hh.elim
              | ok x v' =>
                obtain ⟨w', hrun', hs', hsz, hev⟩ := sim_run sem w v #[] x v' es hpl hs hrun
                obtain ⟨ht1, ht2, ht3⟩ := tape_run sem v #[] x v' es hpl hs.nv hrun
                have eAτ : ∀ τ : Nat → Question → Nat, stepG P true (G ⟨fn, tmps, .inRegion ops (i :: rest) :: k, [], .run, .normal, none⟩ cs) { v with tape := τ } = stepG.apply P true ⟨fn, tmps, .inRegion ops (i :: rest) :: k, [], .run, .normal, none⟩ cs none sem { v with tape := τ } := fun τ => by
                  have := eA [] cs { v with tape := τ }
                  rwa [extB_nil] at this
                have hsz' : w.heap.size ≤ w'.heap.size := by rw [hs.size, hs'.size]; exact hsz
                have hevs : EvsP X w' (seen P fn es) := fun e he => (hev e (mem_seen he)).resolve_left (by simp)
                rcases leaf_run sem hlf v #[] x v' es hrun with ⟨u, rfl⟩ | rfl | ⟨f1, as, hf1, rfl⟩
                · refine .inr (.inr ⟨_, _, seen P fn es, w', by rw [eA0]; simp only [stepG.apply, if_true, hrun, GStep.after]; rfl, ⟨ht1, ht2, fun τ hτ => by rw [eAτ]; simp only [stepG.apply, if_true, ht3 τ hτ, GStep.after]; rfl⟩, hs', hsz', hevs,
                    .here (f' := (⟨fn, tmps, .inRegion ops (i :: rest) :: k, [], .run, .normal, none⟩ : Frame).finish u) rfl (by exact ⟨⟨fun0, hfn⟩, rfl, rfl, rfl, two (a := .inRegion ops _) ho⟩) (.inl rfl) fun K cs2 _ => ?_⟩)
                  rw [eA]
                  simp only [stepG.apply, if_true, hrun', GStep.after]
                  rfl
                · refine .inr (.inr ⟨_, _, seen P fn es, w', by rw [eA0]; simp only [stepG.apply, if_true, hrun, GStep.after]; rfl, ⟨ht1, ht2, fun τ hτ => by rw [eAτ]; simp only [stepG.apply, if_true, ht3 τ hτ, GStep.after]; rfl⟩, hs', hsz', hevs,
                    .here (f' := (⟨fn, tmps, .inRegion ops (i :: rest) :: k, [], .run, .normal, none⟩ : Frame).finish undef) rfl (by exact ⟨⟨fun0, hfn⟩, rfl, rfl, rfl, two (a := .inRegion ops _) ho⟩) (.inl rfl) fun K cs2 _ => ?_⟩)
                  rw [eA]
                  simp only [stepG.apply, if_true, hrun', GStep.after]
                  rfl
                · obtain ⟨fn1, c1, g1, g2, g3, g4⟩ := hF f1 hf1
                  refine .inr (.inr ⟨_, _, seen P fn es, w', by rw [eA0]; simp only [stepG.apply, if_true, hrun, GStep.after]; rfl, ⟨ht1, ht2, fun τ hτ => by rw [eAτ]; simp only [stepG.apply, if_true, ht3 τ hτ, GStep.after]; rfl⟩, hs', hsz', hevs,
                    .call (e := Frame.enter P f1 as .normal) rfl ⟨⟨fn1, g1⟩, rfl, rfl, rfl, fun x hx => ?_⟩ rfl (by simp) fun K cs2 => ?_⟩)
                  · simp only [Frame.enter, g1, Option.bind_some, g3, Option.getD_some, List.mem_singleton] at hx
                    subst hx
                    exact g4
                  · rw [eA]
                    simp only [stepG.apply, if_true, hrun', GStep.after]
                    rfl
    | _ => cases hit
end
end Go.Lf

/-
  A piece of code, run alone to its end: the same with whatever to do behind it, whoever called, in a world that is like it; and what it lists.
-/
namespace Go.Lf
open Go.Conc

section
variable {P : Program} {F : FuncId → Bool} {X : Nat → Prop} {Y : Nat → Option Obj}

theorem plain_results (fn : Func) (tmps : Array Value) : Plain P (results fn tmps) := by
  unfold results
  refine plain_bind (plain_mapM (fun x => ?_) _) fun vs => plain_pure _
  cases x with
  | tmp t => exact plain_pure _
  | cell a t => exact plain_bind (plain_asAddr _) fun _ => plain_loadVar _ _

set_option maxHeartbeats 1000000 in
theorem tback {f c : Frame} {r : List Frame} {w v : World} (hT : TFr P F f) (hm : f.mode = .returning) (hs : Sim X Y w v) : (∃ o v' es, stepG P true (G f (c :: r)) v = .ended o v' es) ∨
    ∃ y v' es w', stepG P true (G f (c :: r)) v = .go (G (c.finish y) r) v' es ∧ Tp P (G f (c :: r)) v (G (c.finish y) r) v' es ∧ Sim X Y w' v' ∧ w.heap.size ≤ w'.heap.size ∧ EvsP X w' es ∧ ∀ c2 r2, stepG P true (G f (c2 :: r2)) w = .go (G (c2.finish y) r2) w' es := by
  obtain ⟨fn, tmps, todo, defers, mode, kind, round⟩ := f
  obtain ⟨⟨fun0, hfn⟩, hk, hd, hr, ht⟩ := hT
  dsimp only at hfn hk hd hr ht hm
  subst hk hd hr hm
  have hpl := plain_results (P := P) fun0 tmps
  have eA : ∀ c2 r2 u, stepG P true (G ⟨fn, tmps, todo, [], .returning, .normal, none⟩ (c2 :: r2)) u =
      GStep.after (seen P fn ((results fun0 tmps).runT P u #[]).2) (match ((results fun0 tmps).runT P u #[]).1 with
        | .ok v w => doReturn P true ⟨fn, tmps, todo, [], .returning, .normal, none⟩ (c2 :: r2) none v w
        | .halt (.stuck s) w => .ended (.stuck s (Frame.pos P ⟨fn, tmps, todo, [], .returning, .normal, none⟩)) w
        | .halt _ w => .ended (.stuck "return: the result variables cannot be read" (Frame.pos P ⟨fn, tmps, todo, [], .returning, .normal, none⟩)) w) := fun c2 r2 u => by
    simp only [G, stepG, unwind, hfn]
    rfl
  cases hrun : (results fun0 tmps).runT P v #[] with
  | mk x es =>
    cases x with
    | halt h v' =>
      refine .inl ?_
      rw [eA, hrun]
      cases h <;> exact ⟨_, _, _, rfl⟩
    | ok y v' =>
      obtain ⟨w', hrun', hs', hsz, hev⟩ := sim_run _ w v #[] y v' es hpl hs hrun
      have hsz' : w.heap.size ≤ w'.heap.size := by rw [hs.size, hs'.size]; exact hsz
      obtain ⟨ht1, ht2, ht3⟩ := tape_run _ v #[] y v' es hpl hs.nv hrun
      refine .inr ⟨y, _, seen P fn es, w', by rw [eA, hrun]; simp only [doReturn, GStep.after]; rfl, ⟨ht1, ht2, fun τ hτ => by rw [eA, ht3 τ hτ]; simp only [doReturn, GStep.after]; rfl⟩, hs', hsz', fun e he => (hev e (mem_seen he)).resolve_left (by simp), fun c2 r2 => ?_⟩
      rw [eA, hrun']
      simp only [doReturn, GStep.after]
      rfl

/-- A frame beneath all: whatever comes back to it, or falls on it, is the end. -/
def f0 : Frame := { fn := 0, tmps := #[], todo := [.code (.refuse "")], defers := [{ target := .nil, args := #[] }], mode := .run, kind := .normal }
theorem f0_run (u : World) : ∃ o v es, stepG P true (G f0 []) u = .ended o v es := ⟨_, _, _, rfl⟩
theorem f0_finish (v : Value) : f0.finish v = f0 := rfl
theorem f0_dead (ch : List PanicEntry) (u : World) : ∃ o v es, stepG P true (G { f0 with mode := .panicking ch } []) u = .ended o v es := ⟨_, _, _, rfl⟩

/-- The stack of such a run: all but the last frame wait for a callee. -/
def Stack (P : Program) (F : FuncId → Bool) : List Frame → Prop
  | [] => True
  | c :: r => (TFr P F c ∧ c.mode = .run ∧ c.todo ≠ [] ∧ (∀ v, TFr P F (c.finish v) ∧ (c.finish v).mode = .run ∧ ∀ K, (extB K c).finish v = extB K (c.finish v))) ∧ Stack P F r

theorem finish_ok {c : Frame} (hT : TFr P F c) (hm : c.mode = .run) (hne : c.todo ≠ []) : ∀ v, TFr P F (c.finish v) ∧ (c.finish v).mode = .run ∧ ∀ K, (extB K c).finish v = extB K (c.finish v) := by
  intro v
  obtain ⟨fn, tmps, todo, defers, mode, kind, round⟩ := c
  obtain ⟨h1, hk, hd, hr, ht⟩ := hT
  dsimp only at h1 hk hd hr ht hm hne
  subst hk hd hr hm
  cases todo with
  | nil => exact absurd rfl hne
  | cons it k =>
    have hit := ht it (by simp)
    cases it with
    | inRegion ops is =>
      cases is with
      | nil => exact ⟨⟨h1, rfl, rfl, rfl, ht⟩, rfl, fun K => rfl⟩
      | cons i rest =>
        refine ⟨⟨h1, rfl, rfl, rfl, fun x hx => ?_⟩, rfl, fun K => rfl⟩
        rcases List.mem_cons.1 hx with rfl | hx
        · exact hit
        · exact ht x (by simp [hx])
    | code c => exact ⟨⟨h1, rfl, rfl, rfl, ht⟩, rfl, fun K => rfl⟩
    | inBlock id => exact ⟨⟨h1, rfl, rfl, rfl, ht⟩, rfl, fun K => rfl⟩
    | inLoop c => exact ⟨⟨h1, rfl, rfl, rfl, ht⟩, rfl, fun K => rfl⟩
    | _ => cases hit

/-- The stack with more to do behind its last frame, and other callers. -/
def extS (K : List Item) (cs : List Frame) : List Frame → List Frame
  | [] => cs
  | [b] => extB K b :: cs
  | c :: d :: r => c :: extS K cs (d :: r)

/-- Steps that list what is allowed. -/
inductive Gets (P : Program) (X : Nat → Prop) : Goroutine → World → Goroutine → World → Prop
  | refl (g : Goroutine) (w : World) : Gets P X g w g w
  | step {g g' g'' : Goroutine} {w w' w'' : World} {es : Array Event} : g.status = .running → stepG P true g w = .go g' w' es → EvsP X w' es → w.heap.size ≤ w'.heap.size → Gets P X g' w' g'' w'' → Gets P X g w g'' w''
theorem Gets.trans {g g' g'' : Goroutine} {w w' w'' : World} (h : Gets P X g w g' w') (h' : Gets P X g' w' g'' w'') : Gets P X g w g'' w'' := by
  induction h with
  | refl => exact h'
  | step a b c d _ ih => exact .step a b c d (ih h')

/-- n steps of a goroutine alone. -/
def ownN (P : Program) (n : Nat) (f : Frame) (cs : List Frame) (v : World) (f' : Frame) (cs' : List Frame) (v' : World) : Prop := runN P n (lone f cs v) = .next (lone f' cs' v')
theorem own_go {n : Nat} {f f1 f' : Frame} {cs cs1 cs' : List Frame} {v v1 v' : World} {es : Array Event} (he : stepG P true (G f cs) v = .go (G f1 cs1) v1 es) (h : ownN P (n + 1) f cs v f' cs' v') : ownN P n f1 cs1 v1 f' cs' v' := by
  have : step P (lone f cs v) = .next (lone f1 cs1 v1) := step_lone_go (by rw [show stepG P true { frame := f, callers := cs, status := .running, dying := none } v = _ from he]; rfl)
  unfold ownN at h
  rw [runN, this] at h
  exact h
theorem own_end {n : Nat} {f f' : Frame} {cs cs' : List Frame} {v v1 v' : World} {o : Outcome} {es : Array Event} (he : stepG P true (G f cs) v = .ended o v1 es) : ¬ ownN P (n + 1) f cs v f' cs' v' := by
  have : step P (lone f cs v) = .ended o v1 := step_lone_ended (by rw [show stepG P true { frame := f, callers := cs, status := .running, dying := none } v = _ from he]; rfl)
  intro h
  unfold ownN at h
  rw [runN, this] at h
  cases h
theorem own_zero {f f' : Frame} {cs cs' : List Frame} {v v' : World} (h : ownN P 0 f cs v f' cs' v') : f = f' ∧ cs = cs' ∧ v = v' := by
  unfold ownN at h
  rw [runN] at h
  simp only [lone, Stepped.next.injEq, Machine.mk.injEq] at h
  obtain ⟨h1, h2, _⟩ := h
  simp at h2
  exact ⟨h2.1, h2.2, h1⟩

/-- Once a panic is on its way there is no way back. -/
theorem dead_end : ∀ (n : Nat) (f : Frame) (r : List Frame) (ch : List PanicEntry) (v : World) (f' : Frame) (r' : List Frame) (v' : World), (∀ c ∈ r, TFr P F c ∧ c.mode = .run) → f.mode = .panicking ch → ((∃ fn, P.funcs[f.fn]? = some fn) ∧ f.defers = []) → f'.mode = .run →
    ¬ ownN P n f (r ++ [f0]) v f' r' v'
  | 0, f, r, ch, v, f', r', v', _, hm, _, hm', h => by
    obtain ⟨rfl, _⟩ := own_zero h
    rw [hm'] at hm
    cases hm
  | n + 1, f, r, ch, v, f', r', v', hr, hm, ⟨⟨fn, hfn⟩, hd⟩, hm', h => by
    have hcat : f.catches P = false := by unfold Frame.catches; rw [hfn]
    cases r with
    | nil =>
      have e : stepG P true (G f ([] ++ [f0])) v = .go (G (f0.raise ch) []) v #[] := by
        simp only [List.nil_append, G, stepG, hm, unwind, hd, hcat, Bool.false_eq_true, if_false]
      have h2 := own_go e h
      cases n with
      | zero =>
        obtain ⟨h3, _⟩ := own_zero h2
        rw [← h3] at hm'
        cases hm'
      | succ n =>
        obtain ⟨o, v1, es, he⟩ := f0_dead (P := P) ch v
        exact own_end (show stepG P true (G (f0.raise ch) []) v = _ from he) h2
    | cons c r =>
      have e : stepG P true (G f (c :: r ++ [f0])) v = .go (G (c.raise ch) (r ++ [f0])) v #[] := by
        simp only [List.cons_append, G, stepG, hm, unwind, hd, hcat, Bool.false_eq_true, if_false]
      have h2 := own_go e h
      obtain ⟨hc, hcm⟩ := hr c (by simp)
      have er : c.raise ch = { c with mode := .panicking ch } := by simp [Frame.raise, hcm]
      rw [er] at h2
      exact dead_end n { c with mode := .panicking ch } r ch v f' r' v' (fun x hx => hr x (by simp [hx])) rfl ⟨hc.fn, hc.defers⟩ hm' h2

def extG (K : List Item) (cs : List Frame) (f : Frame) (r : List Frame) : Goroutine :=
  match r with
  | [] => G (extB K f) cs
  | c :: r => G f (extS K cs (c :: r))

theorem stack_mem : ∀ {r : List Frame}, Stack P F r → ∀ c ∈ r, TFr P F c ∧ c.mode = .run
  | [], _, c, h => by simp at h
  | d :: r, hS, c, h => by
    rcases List.mem_cons.1 h with rfl | h
    · exact ⟨hS.1.1, hS.1.2.1⟩
    · exact stack_mem hS.2 c h

/-- From f0 there is no way back. -/
theorem f0_end (n : Nat) (v : World) (fz : Frame) (v' : World) : ¬ ownN P n f0 [] v fz [f0] v' := by
  intro h
  cases n with
  | zero => exact absurd (own_zero h).2.1 (by simp)
  | succ n =>
    obtain ⟨o, v1, es, he⟩ := f0_run (P := P) v
    exact own_end he h

/-- ████ The run is carried over. -/
theorem carry (hF : GoodF P F) {fz : Frame} {v' : World} (hz : fz.todo = []) (hzm : fz.mode = .run) (K : List Item) (cs : List Frame) : ∀ (n : Nat) (f : Frame) (r : List Frame) (v w : World), TFr P F f → (f.mode = .run ∨ f.mode = .returning) → Stack P F r → Sim X Y w v →
    ownN P n f (r ++ [f0]) v fz [f0] v' → ∃ w', Sim X Y w' v' ∧ Gets P X (extG K cs f r) w (G (extB K fz) cs) w'
  | 0, f, r, v, w, hT, hm, hS, hs, h => by
    obtain ⟨rfl, h2, rfl⟩ := own_zero h
    have : r = [] := by
      have := congrArg List.length h2
      simp at this
      exact this
    subst this
    exact ⟨w, hs, .refl _ _⟩
  | n + 1, f, r, v, w, hT, hm, hS, hs, h => by
    rcases hm with hm | hm
    · by_cases hend : r = [] ∧ f.todo = []
      · obtain ⟨rfl, ht⟩ := hend
        have e : stepG P true (G f ([] ++ [f0])) v = .go (G { f with mode := .returning } ([] ++ [f0])) v #[] := by
          obtain ⟨fn, tmps, todo, defers, mode, kind, round⟩ := f
          have hk := hT.kind
          have hd := hT.defers
          have hr := hT.round
          dsimp only at hk hd hr ht hm
          subst hk hd hr ht hm
          rfl
        have h2 := own_go e h
        cases n with
        | zero =>
          obtain ⟨h3, _⟩ := own_zero h2
          rw [← h3] at hzm
          cases hzm
        | succ n =>
          rcases tback (c := f0) (r := []) (f := { f with mode := .returning }) (F := F) ⟨hT.fn, hT.kind, hT.defers, hT.round, hT.todo⟩ rfl hs with ⟨o, v'', es', he⟩ | ⟨y, v'', es', w', he, _⟩
          · exact (own_end he h2).elim
          · exact absurd (own_go he h2) (f0_end n _ fz v')
      · rcases tstep (cs := r ++ [f0]) hF hT hm hs with ⟨o, v'', es', he⟩ | ⟨ch, v'', es', he⟩ | ⟨g', v'', es', w', he, _, hs', hsz, hev, hway⟩
        · exact (own_end he h).elim
        · exact absurd (own_go he h) (dead_end (F := F) n _ r ch _ fz [f0] v' (stack_mem hS) rfl ⟨hT.fn, hT.defers⟩ hzm)
        · cases hway with
          | @here f' hg hT' hm' hB =>
            subst hg
            have h2 := own_go he h
            obtain ⟨w2, hs2, hG⟩ := carry hF hz hzm K cs n f' r v'' w' hT' hm' hS hs' h2
            refine ⟨w2, hs2, ?_⟩
            cases r with
            | nil => exact .step rfl (hB K cs fun ht => absurd ⟨rfl, ht⟩ hend) hev hsz hG
            | cons c r =>
              have := hB [] (extS K cs (c :: r)) (fun _ => rfl)
              rw [extB_nil, extB_nil] at this
              exact .step rfl this hev hsz hG
          | @call e hg hTe hme hne hB =>
            subst hg
            have h2 := own_go he h
            obtain ⟨w2, hs2, hG⟩ := carry hF hz hzm K cs n e (f :: r) v'' w' hTe (.inl hme) ⟨⟨hT, hm, hne, finish_ok hT hm hne⟩, hS⟩ hs' h2
            refine ⟨w2, hs2, ?_⟩
            cases r with
            | nil => exact .step rfl (hB K cs) hev hsz hG
            | cons c r =>
              have := hB [] (extS K cs (c :: r))
              rw [extB_nil] at this
              exact .step rfl this hev hsz hG
          | back _ _ hr _ => rw [hm] at hr; cases hr
    · cases r with
      | nil =>
        rcases tback (c := f0) (r := []) (F := F) hT hm hs with ⟨o, v'', es', he⟩ | ⟨y, v'', es', w', he, _⟩
        · exact (own_end he h).elim
        · exact absurd (own_go he h) (f0_end n _ fz v')
      | cons c r =>
        rcases tback (c := c) (r := r ++ [f0]) (F := F) hT hm hs with ⟨o, v'', es', he⟩ | ⟨y, v'', es', w', he, _, hs', hsz, hev, hB⟩
        · exact (own_end he h).elim
        · have h2 := own_go he h
          obtain ⟨hTc, hmc, hfin⟩ := hS.1.2.2.2 y
          obtain ⟨w2, hs2, hG⟩ := carry hF hz hzm K cs n (c.finish y) r v'' w' hTc (.inl hmc) hS.2 hs' h2
          refine ⟨w2, hs2, ?_⟩
          cases r with
          | nil =>
            have := hB (extB K c) cs
            rw [hfin K] at this
            exact .step rfl this hev hsz hG
          | cons d r => exact .step rfl (hB c (extS K cs (d :: r))) hev hsz hG

/-- ████ A piece of such code, by its lone law: with whatever to do behind it, whoever called. -/
theorem seg (hF : GoodF P F) {c : Code} (hc : okCode P F c = true) {Q : Exit → Act → World → Prop} {a : Act} {v : World} (h : c.wp P Q a v) (hQ : ∀ e a' v', Q e a' v' → e = .normal ∧ a'.defers = []) (ha : a.defers = []) {f : FuncId} (hf : ∃ fn, P.funcs[f]? = some fn) {w : World} (hs : Sim X Y w v) :
    ∃ a' v', Q .normal a' v' ∧ ∀ (k : List Item) (cs : List Frame), ∃ w'', Sim X Y w'' v' ∧ Gets P X (G ((base f).at a (.code c :: k)) cs) w (G ((base f).at a' k) cs) w'' := by
  obtain ⟨e, a', v', hq, harr⟩ := h (base f) [] [f0]
  obtain ⟨rfl, hd⟩ := hQ _ _ _ hq
  obtain ⟨n, hn⟩ : Steps P (lone ((base f).at a [.code c]) [f0] v) (lone ((base f).at a' []) [f0] v') := harr
  have key := fun K cs => carry hF (X := X) (Y := Y) (fz := (base f).at a' []) (v' := v') rfl rfl K cs n ((base f).at a [.code c]) [] v w ⟨hf, rfl, ha, rfl, fun x hx => by simp [Frame.at] at hx; subst hx; exact hc⟩ (.inl rfl) trivial hs hn
  exact ⟨a', v', hq, fun k cs => key k cs⟩

def NoX : Nat → Prop := fun _ => False
end
end Go.Lf

/-
  The operations that a lone run is made of, that make no marks: append, comparisons, arithmetic, calls.
-/
import Derived.Test.YtlghjjennhpjeaaGreatDoorLfB
import Derived.Laws.Sem
import Derived.Conc.Events
namespace Go.Lf

/-- As 'Plain', but what a block's length is may be asked. -/
def Soft (P : Program) {α : Type} : Sem α → Prop
  | .pure _ => True
  | .load m _ k => m = .plain ∧ ∀ v, Soft P (k v)
  | .store m _ _ k => m = .plain ∧ Soft P k
  | .new o k => NoView o ∧ ∀ r, Soft P (k r)
  | .shape _ k => ∀ s, Soft P (k s)
  | .freeze _ _ _ => False
  | .frozen _ k => ∀ b, Soft P (k b)
  | .getObj _ k => (∀ o o', Ghost o o' → k o = k o') ∧ ∀ o, Soft P (k o)
  | .setObj _ _ _ => False
  | .choose _ k => ∀ n, Soft P (k n)
  | .sys _ _ => False
  | .program k => Soft P (k P)
  | .mark m k => OkMark m ∧ Soft P k
  | .halt h => HaltOk h
section
variable {P : Program} {α β : Type}
theorem Soft.bind : ∀ (s : Sem α) (f : α → Sem β), Soft P s → (∀ a, Soft P (f a)) → Soft P (s.bind f)
  | .pure a, _, _, h => h a
  | .load _ _ k, f, h, h' => ⟨h.1, fun v => Soft.bind (k v) f (h.2 v) h'⟩
  | .store _ _ _ k, f, h, h' => ⟨h.1, Soft.bind k f h.2 h'⟩
  | .new _ k, f, h, h' => ⟨h.1, fun v => Soft.bind (k v) f (h.2 v) h'⟩
  | .shape _ k, f, h, h' => fun v => Soft.bind (k v) f (h v) h'
  | .freeze _ _ _, _, h, _ => h.elim
  | .frozen _ k, f, h, h' => fun v => Soft.bind (k v) f (h v) h'
  | .getObj _ k, f, h, h' => ⟨fun o o' g => congrArg (fun s => Sem.bind s f) (h.1 o o' g), fun v => Soft.bind (k v) f (h.2 v) h'⟩
  | .setObj _ _ _, _, h, _ => h.elim
  | .choose _ k, f, h, h' => fun v => Soft.bind (k v) f (h v) h'
  | .sys _ _, _, h, _ => h.elim
  | .program k, f, h, h' => Soft.bind (k P) f h h'
  | .mark _ k, f, h, h' => ⟨h.1, Soft.bind k f h.2 h'⟩
  | .halt _, _, h, _ => h
theorem Soft.doom : ∀ (s : Sem α) (f : α → Sem β), Soft P s → (∀ a, Doomed P (f a)) → (∀ a, Plain P (f a)) → Plain P (s.bind f)
  | .pure a, _, _, _, h => h a
  | .load _ _ k, f, h, hd, h' => ⟨h.1, fun v => Soft.doom (k v) f (h.2 v) hd h'⟩
  | .store _ _ _ k, f, h, hd, h' => ⟨h.1, Soft.doom k f h.2 hd h'⟩
  | .new _ k, f, h, hd, h' => ⟨h.1, fun v => Soft.doom (k v) f (h.2 v) hd h'⟩
  | .shape _ k, f, h, hd, h' => ⟨fun _ _ => .inl (Doomed.late _ f hd), fun v => Soft.doom (k v) f (h v) hd h'⟩
  | .freeze _ _ _, _, h, _, _ => h.elim
  | .frozen _ k, f, h, hd, h' => fun v => Soft.doom (k v) f (h v) hd h'
  | .getObj _ k, f, h, hd, h' => ⟨fun o o' g => .inl (congrArg (fun s => Sem.bind s f) (h.1 o o' g)), fun v => Soft.doom (k v) f (h.2 v) hd h'⟩
  | .setObj _ _ _, _, h, _, _ => h.elim
  | .choose _ k, f, h, hd, h' => fun v => Soft.doom (k v) f (h v) hd h'
  | .sys _ _, _, h, _, _ => h.elim
  | .program k, f, h, hd, h' => Soft.doom (k P) f h hd h'
  | .mark _ k, f, h, hd, h' => ⟨h.1, Soft.doom k f h.2 hd h'⟩
  | .halt _, _, h, _, _ => h
theorem soft_pure (a : α) : Soft P (pure a : Sem α) := trivial
theorem soft_bind {s : Sem α} {f : α → Sem β} (h : Soft P s) (h' : ∀ a, Soft P (f a)) : Soft P (s >>= f) := Soft.bind s f h h'
theorem soft_shape (r : Nat) : Soft P (shape r) := fun _ => trivial
theorem soft_frozen (a : Addr) : Soft P (frozen a) := fun _ => trivial
theorem doomed_uns (u : Unsupported) : Doomed P (unsupported u : Sem α) := trivial
theorem doomed_late {s : Sem α} {f : α → Sem β} (h : ∀ a, Doomed P (f a)) : Doomed P (s >>= f) := Doomed.late s f h
theorem plain_doom {s : Sem α} {f : α → Sem β} (h : Soft P s) (hd : ∀ a, Doomed P (f a)) (h' : ∀ a, Plain P (f a)) : Plain P (s >>= f) := Soft.doom s f h hd h'
theorem plain_mark : Plain P (mark .noRoom) := ⟨.inl rfl, trivial⟩
theorem plain_under {t : TypeId} {d : TypeDesc} (h : P.underlying t = some d) {f : TypeDesc → Sem β} (hf : Plain P (f d)) : Plain P (underlying t >>= f) := by
  show Plain P ((match P.underlying t with | some d => pure d | none => stuck "no such type" : Sem TypeDesc).bind f)
  rw [h]
  exact hf
end
attribute [local irreducible] Plain Soft
section
variable {P : Program} {α β : Type}
theorem soft_holds (a : Addr) (n : Nat) : Soft P (Builtin.holdsCells a n) := by
  unfold Builtin.holdsCells
  exact soft_bind (soft_shape _) fun s => by split <;> exact soft_pure _
theorem soft_mayShare (a b c : Nat) (o : Option Addr) (x : Value) : Soft P (Builtin.mayShare a b c o x) := by
  unfold Builtin.mayShare
  dsimp only
  repeat' (first | with_reducible exact soft_pure _ | with_reducible exact soft_holds _ _ | with_reducible exact soft_frozen _ | with_reducible refine soft_bind ?_ (fun _ => ?_) | split | dsimp only)
theorem plain_append (ts : Array TypeId) (t : TypeId) (as : Array Value) : Plain P (Builtin.append_ ts t as) := by
  have hdoom : ∀ {γ : Type} (sz sLen n : Nat) (base : Option Addr) (x : Value), Plain P (Builtin.mayShare sz sLen n base x >>= fun b => if (!b) = true then (mark .noRoom >>= fun _ => (unsupported (.resourceLimit "append: a slice or a string whose bytes no memory bears") : Sem γ)) else unsupported (.resourceLimit "append: a slice or a string whose bytes no memory bears")) := fun sz sLen n base x => by
    refine plain_doom (soft_mayShare _ _ _ _ _) (fun a => ?_) (fun a => ?_)
    · split
      · exact doomed_late fun _ => doomed_uns _
      · exact doomed_uns _
    · (repeat' (first | ((with_reducible refine plain_uns ?_); exact trivial) | with_reducible (first | exact plain_mark | (refine plain_bind ?_ (fun _ => ?_)) | (refine plain_ite ?_ ?_))))
  unfold Builtin.append_
  (repeat' (first | with_reducible (first | exact plain_pure _ | exact plain_stuck _ | exact plain_choose _ | exact plain_room _ | exact plain_underlying _ | exact plain_sizeOf _ | exact plain_asInt _ | exact plain_typeInfo _ | exact plain_runtimePanic _ | exact plain_lenOf _ | exact plain_firstCells _ _ _ | exact plain_zeroValue _ | exact plain_storeCells _ _ _ | exact plain_newRow _ _ | exact hdoom _ _ _ _ _ | (refine plain_bind ?_ (fun _ => ?_)) | (refine plain_ite ?_ ?_)) | split))

theorem plain_shift (op : BinOp) (k : IntKind) (x : Int) (yk : IntKind) (y : Int) : Plain P (Op.shift op k x yk y) := by unfold Op.shift; (repeat' (first | with_reducible (first | exact plain_pure _ | exact plain_stuck _ | exact plain_runtimePanic _ | (refine plain_ite ?_ ?_)) | split))
theorem plain_intArith (op : BinOp) (k : IntKind) (x y : Int) : Plain P (Op.intArith op k x y) := by unfold Op.intArith; (repeat' (first | with_reducible (first | exact plain_pure _ | exact plain_stuck _) | split))
theorem plain_intDiv (op : BinOp) (k : IntKind) (x y : Int) : Plain P (Op.intDiv op k x y) := by unfold Op.intDiv; (repeat' (first | with_reducible (first | exact plain_pure _ | exact plain_stuck _ | exact plain_runtimePanic _ | (refine plain_ite ?_ ?_)) | split))
theorem plain_intBits (op : BinOp) (k : IntKind) (x y : Int) : Plain P (Op.intBits op k x y) := by unfold Op.intBits; (repeat' (first | with_reducible (first | exact plain_pure _ | exact plain_stuck _) | split))
theorem plain_intCmp (op : BinOp) (x y : Int) : Plain P (Op.intCmp op x y) := by unfold Op.intCmp; (repeat' (first | with_reducible (first | exact plain_pure _ | exact plain_stuck _) | split))
theorem plain_floatArith (op : BinOp) (k : FloatKind) (x y : Nat) : Plain P (Op.floatArith op k x y) := by unfold Op.floatArith; (repeat' (first | with_reducible (first | exact plain_pure _ | exact plain_stuck _ | exact plain_choose _ | (refine plain_bind ?_ (fun _ => ?_))) | split | (dsimp only)))
theorem plain_floatCmp (op : BinOp) (k : FloatKind) (x y : Nat) : Plain P (Op.floatCmp op k x y) := by unfold Op.floatCmp; (repeat' (first | with_reducible (first | exact plain_pure _ | exact plain_stuck _) | split))
theorem plain_stringOp (op : BinOp) (x y : ByteArray) : Plain P (Op.stringOp op x y) := by unfold Op.stringOp; (repeat' (first | with_reducible (first | exact plain_pure _ | exact plain_stuck _) | ((with_reducible refine plain_uns ?_); exact trivial) | with_reducible (refine plain_ite ?_ ?_) | split))
theorem plain_f2f (a : FloatKind) (b : Nat) (c : FloatKind) : Plain P (Conv.floatToFloat a b c) := by unfold Conv.floatToFloat; (repeat' (first | with_reducible (first | exact plain_pure _ | exact plain_choose _ | (refine plain_bind ?_ (fun _ => ?_)) | (refine plain_ite ?_ ?_)) | split))
theorem plain_carith (op : BinOp) (k : FloatKind) (x y : Nat) : Plain P (Op.Complex.arith op k x y) := by unfold Op.Complex.arith; (repeat' (first | with_reducible (first | exact plain_pure _ | exact plain_stuck _ | exact plain_floatArith _ _ _ _ | (refine plain_bind ?_ (fun _ => ?_))) | split))
theorem plain_ccmp (op : BinOp) (k : FloatKind) (x y : Nat) : Plain P (Op.Complex.cmp op k x y) := by unfold Op.Complex.cmp; (repeat' (with_reducible first | exact plain_floatCmp _ _ _ _ | exact plain_asBool _ | (refine plain_bind ?_ (fun _ => ?_))))
theorem plain_cconv (a : FloatKind) (b : Nat) (c : FloatKind) : Plain P (Op.Complex.conv a b c) := by unfold Op.Complex.conv; (repeat' (first | with_reducible (first | exact plain_pure _ | exact plain_stuck _ | exact plain_f2f _ _ _ | (refine plain_bind ?_ (fun _ => ?_)) | (refine plain_ite ?_ ?_)) | split))
theorem plain_cprod (a b c d : Nat) : Plain P (Op.Complex.product a b c d) := by unfold Op.Complex.product Op.Complex.add Op.Complex.sub Op.Complex.mul; (repeat' (with_reducible first | exact plain_pure _ | exact plain_carith _ _ _ _ | (refine plain_bind ?_ (fun _ => ?_))))
theorem plain_ccorr (s a b c d : Nat) : Plain P (Op.Complex.corrected s a b c d) := by unfold Op.Complex.corrected Op.Complex.add Op.Complex.sub Op.Complex.mul; (repeat' (with_reducible first | exact plain_pure _ | exact plain_carith _ _ _ _ | (refine plain_bind ?_ (fun _ => ?_))))
theorem plain_cquot (a b c d : Nat) : Plain P (Op.Complex.quotient a b c d) := by unfold Op.Complex.quotient Op.Complex.add Op.Complex.sub Op.Complex.mul Op.Complex.quo; (repeat' (with_reducible first | exact plain_pure _ | exact plain_carith _ _ _ _ | exact plain_ccmp _ _ _ _ | exact plain_ccorr _ _ _ _ _ | (refine plain_bind ?_ (fun _ => ?_)) | (refine plain_ite ?_ ?_)))
theorem plain_complex (op : BinOp) (k : FloatKind) (a b c d : Nat) : Plain P (Op.complexOp op k a b c d) := by unfold Op.complexOp; (repeat' (first | with_reducible (first | exact plain_pure _ | exact plain_stuck _ | exact plain_carith _ _ _ _ | exact plain_ccmp _ _ _ _ | exact plain_cconv _ _ _ | exact plain_cprod _ _ _ _ | exact plain_cquot _ _ _ _ | (refine plain_bind ?_ (fun _ => ?_)) | (refine plain_ite ?_ ?_)) | split))
theorem cellAt_zero (p : Program) (d : Nat) (e : TypeId) (off : Nat) (b : Int) : cellAtBytes p d e 0 off b = none := by
  unfold cellAtBytes
  dsimp only
  split
  · rfl
  · cases byteOfCell p d e (off % p.cellsOf e) with
    | none => rfl
    | some here =>
      simp only [Nat.zero_mul, Option.bind_eq_bind, Option.bind_some]
      rw [if_pos]
      · rfl
      · rw [Bool.or_eq_true, decide_eq_true_iff, decide_eq_true_iff]
        have : ∀ z : Int, z < 0 ∨ z ≥ Int.ofNat 0 := fun z => by have : Int.ofNat 0 = 0 := rfl; omega
        exact this _
theorem plain_unsafeAdd (t : TypeId) (x y : Value) : Plain P (Builtin.unsafeAdd_ #[] t #[x, y]) := by
  have hd : ∀ (a : Addr) (n : Int) (e : TypeId), Doomed P (program >>= fun p => match cellAtBytes p p.depth e (0 / p.cellsOf e) a.off n with
        | some off => (pure (.pointer (some { a with off })) : Sem Value)
        | none => unsupported (.unsafePointer "Add")) := fun a n e => by
    show Doomed P (match cellAtBytes P P.depth e (0 / P.cellsOf e) a.off n with
        | some off => (pure (.pointer (some { a with off })) : Sem Value)
        | none => unsupported (.unsafePointer "Add"))
    rw [Nat.zero_div, cellAt_zero]
    exact doomed_uns _
  unfold Builtin.unsafeAdd_
  cases x with
  | pointer ptr =>
    dsimp only
    refine plain_bind (plain_asInt _) fun n => ?_
    cases ptr with
    | none => (repeat' (first | ((with_reducible refine plain_uns ?_); exact trivial) | with_reducible (first | (refine plain_bind ?_ (fun _ => ?_)) | (refine plain_ite ?_ ?_))))
    | some a =>
      have key : Plain P (shape a.block >>= fun s => match s with
          | some (e, cells) => (program >>= fun p => match cellAtBytes p p.depth e (cells / p.cellsOf e) a.off n with
            | some off => (pure (.pointer (some { a with off })) : Sem Value)
            | none => unsupported (.unsafePointer "Add"))
          | _ => unsupported (.unsafePointer "Add")) := by
        refine plain_shape (fun t m => .inl (hd a n t)) fun s => by (repeat' (first | with_reducible exact plain_pure _ | ((with_reducible refine plain_uns ?_); exact trivial) | with_reducible (first | exact plain_program | (refine plain_bind ?_ (fun _ => ?_))) | split))
      refine plain_ite ?_ ?_
      · exact plain_viewBind (fun _ => trivial) (fun _ => plain_bind (plain_uns trivial) fun _ => plain_pure _) (plain_pure _)
      · refine plain_ite ?_ ?_
        · exact plain_bind (plain_uns trivial) fun _ => key
        · exact key
  | _ => exact plain_stuck _
theorem plain_twoPlaces (a b : Addr) : Plain P (Op.twoPlaces a b) := by unfold Op.twoPlaces; (repeat' (first | with_reducible exact plain_pure _ | ((with_reducible refine plain_uns ?_); exact trivial) | with_reducible (first | exact plain_program | exact plain_byteOf _ | (refine plain_bind ?_ (fun _ => ?_)) | (refine plain_ite ?_ ?_))))
theorem plain_addrSub (k : IntKind) (a b : Addr) : Plain P (Op.addrSub k a b) := by unfold Op.addrSub; (repeat' (with_reducible first | exact plain_pure _ | exact plain_twoPlaces _ _ | (refine plain_bind ?_ (fun _ => ?_))))
theorem plain_addrCmp (op : BinOp) (a b : Addr) : Plain P (Op.addrCmp op a b) := by unfold Op.addrCmp; (repeat' (first | with_reducible exact plain_pure _ | ((with_reducible refine plain_uns ?_); exact trivial) | with_reducible (first | exact plain_twoPlaces _ _ | (refine plain_bind ?_ (fun _ => ?_))) | split))
theorem plain_addrMod (k : IntKind) (a : Addr) (n : Int) : Plain P (Op.addrMod k a n) := by
  unfold Op.addrMod
  exact plain_shape (fun _ _ => .inr rfl) fun s => by (repeat' (first | with_reducible exact plain_pure _ | ((with_reducible refine plain_uns ?_); exact trivial) | with_reducible (first | exact plain_typeInfo _ | exact plain_byteOf _ | (refine plain_bind ?_ (fun _ => ?_)) | (refine plain_ite ?_ ?_)) | split))
theorem plain_asNumber (a : Addr) (l : Bool) : Plain P (asNumber a l) := by unfold asNumber; exact plain_bind (plain_new (o := .number a l) trivial) fun _ => plain_pure _
theorem plain_movedNumber (t : TypeId) (x y : Value) : Plain P (movedNumber t x y) := by unfold movedNumber; (repeat' (first | with_reducible exact plain_pure _ | ((with_reducible refine plain_uns ?_); exact trivial) | with_reducible (first | exact plain_underlying _ | exact plain_unsafeAdd _ _ _ | exact plain_behind _ | exact plain_asNumber _ _ | (refine plain_bind ?_ (fun _ => ?_)) | (refine plain_ite ?_ ?_)) | split))
theorem plain_movedPointer (t : TypeId) (x y : Value) : Plain P (movedPointer t x y) := by unfold movedPointer; (repeat' (first | ((with_reducible refine plain_uns ?_); exact trivial) | with_reducible (first | exact plain_numberAt _ | exact plain_unsafeAdd _ _ _ | (refine plain_bind ?_ (fun _ => ?_)) | (refine plain_ite ?_ ?_)) | split))
theorem plain_equal_int {t : TypeId} (h : (∃ k, P.underlying t = some (.int k)) ∨ P.underlying t = some .string ∨ P.underlying t = some .bool) (x y : Value) : Plain P (Op.equal t x y) := by
  show Plain P (Op.equalIn (9999 + 1) t x y)
  unfold Op.equalIn
  rcases h with ⟨k, h⟩ | h | h
  · refine plain_under h ?_
    split <;> first | contradiction | (repeat' (first | with_reducible (first | exact plain_pure _ | exact plain_stuck _) | ((with_reducible refine plain_uns ?_); exact trivial) | with_reducible (first | exact plain_program | exact plain_behind _ | exact plain_byteOf _ | exact plain_typeInfo _ | (refine plain_bind ?_ (fun _ => ?_)) | (refine plain_ite ?_ ?_)) | split))
  · refine plain_under h ?_
    split <;> first | contradiction | (repeat' (with_reducible first | exact plain_pure _ | exact plain_stuck _))
  · refine plain_under h ?_
    split <;> first | contradiction | (repeat' (with_reducible first | exact plain_pure _ | exact plain_stuck _))
theorem plain_binOp (op : BinOp) (t : TypeId) (x y : Value) (h : op = .eql ∨ op = .neq → (∃ k, P.underlying t = some (.int k)) ∨ P.underlying t = some .string ∨ P.underlying t = some .bool) : Plain P (binOp op t x y) := by
  unfold binOp
  split <;> first
    | (have hk := h (.inl rfl); (repeat' (with_reducible first | exact plain_pure _ | exact plain_equal_int hk _ _ | (refine plain_bind ?_ (fun _ => ?_)))))
    | (have hk := h (.inr rfl); (repeat' (with_reducible first | exact plain_pure _ | exact plain_equal_int hk _ _ | (refine plain_bind ?_ (fun _ => ?_)))))
    | (repeat' (first | with_reducible exact plain_stuck _ | ((with_reducible refine plain_uns ?_); exact trivial) | with_reducible (first | exact plain_shift _ _ _ _ _ | exact plain_intArith _ _ _ _ | exact plain_intDiv _ _ _ _ | exact plain_intBits _ _ _ _ | exact plain_intCmp _ _ _ | exact plain_floatArith _ _ _ _ | exact plain_floatCmp _ _ _ _ | exact plain_stringOp _ _ _ | exact plain_complex _ _ _ _ _ _ | exact plain_addrSub _ _ _ | exact plain_addrCmp _ _ _ | exact plain_addrMod _ _ _ | exact plain_behind _ | exact plain_movedNumber _ _ _ | exact plain_movedPointer _ _ _ | exact plain_underlying _ | (refine plain_bind ?_ (fun _ => ?_)) | (refine plain_ite ?_ ?_)) | split))
end
end Go.Lf

/-
  Operations that do the same in both worlds, said by what they do: comparisons of addresses among them.
-/
namespace Go.Lf

/-- It does the same in both worlds, reads the tape only as far as it draws from it, and ends by no other halt than a panic or an end of the whole run. -/
structure Okay (P : Program) {α : Type} (s : Sem α) : Prop where
  sim : ∀ {X : Nat → Prop} {Y : Nat → Option Obj} (w v : World) (es : Array Event) (x : α) (v' : World) (es' : Array Event), Sim X Y w v → s.runT P v es = (.ok x v', es') →
    ∃ w', s.runT P w es = (.ok x w', es') ∧ Sim X Y w' v' ∧ v.heap.size ≤ v'.heap.size ∧ ∀ e ∈ es', e ∈ es ∨ EvP X w' e
  tape : ∀ (v : World) (es : Array Event) (x : α) (v' : World) (es' : Array Event), (∀ (b : Nat) (o : Obj), v.heap[b]? = some o → NoView o) → s.runT P v es = (.ok x v', es') →
    v'.tape = v.tape ∧ v.drawn ≤ v'.drawn ∧ ∀ τ : Nat → Question → Nat, (∀ p, v.drawn ≤ p → p < v'.drawn → τ p = v.tape p) → s.runT P { v with tape := τ } es = (.ok x { v' with tape := τ }, es')
  halts : ∀ {X : Nat → Prop} {Y : Nat → Option Obj} (w v : World) (es : Array Event) (x : Halt) (v' : World) (es' : Array Event), Sim X Y w v → s.runT P v es = (.halt x v', es') → HaltOk x

section
variable {P : Program} {α β : Type}
theorem Okay.of {s : Sem α} (h : Plain P s) : Okay P s := ⟨fun w v es x v' es' => sim_run s w v es x v' es' h, fun v es x v' es' => tape_run s v es x v' es' h, fun w v es x v' es' => plain_halts s w v es x v' es' h⟩
theorem Okay.bind {s : Sem α} {f : α → Sem β} (h : Okay P s) (h' : ∀ a, Okay P (f a)) : Okay P (s >>= f) := by
  have e : ∀ w es, (s >>= f).runT P w es = match s.runT P w es with
      | (.ok a w', es') => (f a).runT P w' es'
      | (.halt x w', es') => (.halt x w', es') := fun w es => Go.Sem.runT_bind' P s f w es
  refine ⟨fun w v es x v' es' hs hr => ?_, fun v es x v' es' hn hr => ?_, fun w v es x v' es' hs hr => ?_⟩
  · rw [e] at hr
    cases hr1 : s.runT P v es with
    | mk r es1 =>
      rw [hr1] at hr
      cases r with
      | halt y v1 => cases hr
      | ok a v1 =>
        obtain ⟨w1, h1, h2, h3, h4⟩ := h.sim w v es a v1 es1 hs hr1
        obtain ⟨w2, g1, g2, g3, g4⟩ := (h' a).sim w1 v1 es1 x v' es' h2 hr
        refine ⟨w2, by rw [e, h1]; exact g1, g2, by omega, fun ev hev => ?_⟩
        rcases g4 ev hev with g5 | g5
        · rcases h4 ev g5 with g6 | g6
          · exact .inl g6
          · exact .inr (g6.grow (by rw [h2.size, g2.size]; exact g3))
        · exact .inr g5
  · rw [e] at hr
    cases hr1 : s.runT P v es with
    | mk r es1 =>
      rw [hr1] at hr
      cases r with
      | halt y v1 => cases hr
      | ok a v1 =>
        obtain ⟨h1, h2, h3⟩ := h.tape v es a v1 es1 hn hr1
        obtain ⟨w1, _, hs1, _, _⟩ := h.sim v v es a v1 es1 (Sim.self hn) hr1
        obtain ⟨g1, g2, g3⟩ := (h' a).tape v1 es1 x v' es' hs1.nv hr
        refine ⟨g1.trans h1, by omega, fun τ hτ => ?_⟩
        rw [e, h3 τ fun p hp1 hp2 => hτ p hp1 (by omega)]
        exact g3 τ fun p hp1 hp2 => by rw [h1]; exact hτ p (by omega) hp2
  · rw [e] at hr
    cases hr1 : s.runT P v es with
    | mk r es1 =>
      rw [hr1] at hr
      cases r with
      | halt y v1 =>
        cases hr
        exact h.halts w v es x v' es' hs hr1
      | ok a v1 =>
        obtain ⟨w1, _, h2, _, _⟩ := h.sim w v es a v1 es1 hs hr1
        exact (h' a).halts w1 v1 es1 x v' es' h2 hr
theorem okay_prog {k : Program → Sem α} (h : Okay P (k P)) : Okay P (program >>= k) := ⟨fun w v es x v' es' hs hr => h.sim w v es x v' es' hs hr, fun v es x v' es' hn hr => h.tape v es x v' es' hn hr, fun w v es x v' es' hs hr => h.halts w v es x v' es' hs hr⟩
theorem Okay.map {s : Sem α} {f : α → β} (h : Okay P s) : Okay P (f <$> s) := Okay.bind h fun _ => Okay.of (plain_pure _)
theorem Okay.ite {c : Prop} [Decidable c] {a b : Sem α} (h : Okay P a) (h' : Okay P b) : Okay P (if c then a else b) := by split <;> assumption

/-- Does a string share these bytes? -/
def sgW (u : World) (a : Addr) : Bool := u.frozen? a || match u.shape? a.block with
  | some (_, n) => u.frozen? { block := a.block, off := n }
  | none => false
def emW (u : World) (a : Addr) : Bool := (u.shape? a.block) matches some (_, 0)
def mbW (u : World) (a b : Addr) : Bool := (sgW u a && sgW u b) || (sgW u a && emW u a) || (sgW u b && emW u b)
theorem run_frozen (a : Addr) (u : World) (es : Array Event) : (frozen a).runT P u es = (.ok (u.frozen? a) u, es) := rfl
theorem run_shape (r : Nat) (u : World) (es : Array Event) : (shape r).runT P u es = (.ok (u.shape? r) u, es) := rfl
theorem run_stringish (a : Addr) (u : World) (es : Array Event) : (stringish a).runT P u es = (.ok (sgW u a) u, es) := by
  unfold stringish sgW
  show (Sem.bind (frozen a) _).runT P u es = _
  rw [Go.Sem.runT_bind', run_frozen]
  cases hf : u.frozen? a with
  | true => rfl
  | false =>
    simp only [Bool.false_eq_true, if_false, Bool.false_or]
    show (Sem.bind (shape a.block) _).runT P u es = _
    rw [Go.Sem.runT_bind', run_shape]
    cases u.shape? a.block with
    | none => rfl
    | some x => rfl
theorem run_mayBeOne (a b : Addr) (u : World) (es : Array Event) : (mayBeOne a b).runT P u es = (.ok (mbW u a b) u, es) := by
  unfold mayBeOne
  show (Sem.bind (stringish a) _).runT P u es = _
  rw [Go.Sem.runT_bind', run_stringish]
  show (Sem.bind (stringish b) _).runT P u es = _
  rw [Go.Sem.runT_bind', run_stringish]
  rfl
theorem sgW_sim {X : Nat → Prop} {Y : Nat → Option Obj} {w v : World} (h : Sim X Y w v) (a : Addr) : sgW w a = sgW v a ∧ (sgW v a = true → emW w a = emW v a) := by
  have sh : ¬ X a.block → w.shape? a.block = v.shape? a.block := fun hx => by
    cases hy : Y a.block with
    | some o =>
      obtain ⟨o', h1, h2, hg⟩ := h.gho _ _ hy
      simp only [World.shape?, h1, h2]
      rcases hg with ⟨b, t, rfl, rfl⟩ | ⟨c, t, rfl, rfl⟩ <;> rfl
    | none => simp only [World.shape?, h.same a.block hx hy]
  by_cases hx : X a.block
  · have no : ∀ n, v.frozen? { block := a.block, off := n } = false := fun n => by
      obtain ⟨cs, t, fr, h1, h2⟩ := h.doc _ hx
      obtain rfl := h.unf _ _ _ _ hx h2
      simp [World.frozen?, h2]
    have nv : sgW v a = false := by
      unfold sgW
      have h1 : v.frozen? a = false := by
        have := no a.off
        simpa [World.frozen?] using this
      rw [h1, Bool.false_or]
      split
      · exact no _
      · rfl
    have nw : sgW w a = false := by
      unfold sgW
      have h1 : w.frozen? a = false := by
        rw [h.frozen]
        have := no a.off
        simpa [World.frozen?] using this
      rw [h1, Bool.false_or]
      split
      · rw [h.frozen]; exact no _
      · rfl
    exact ⟨nw.trans nv.symm, fun hh => by rw [nv] at hh; cases hh⟩
  · refine ⟨?_, fun _ => by unfold emW; rw [sh hx]⟩
    unfold sgW
    rw [sh hx, h.frozen]
    split
    · rw [h.frozen]
    · rfl
theorem okay_mayBeOne (a b : Addr) : Okay P (mayBeOne a b) := by
  refine ⟨fun w v es x v' es' hs hr => ?_, fun v es x v' es' hn hr => ?_, fun w v es x v' es' hs hr => ?_⟩
  · rw [run_mayBeOne] at hr
    cases hr
    refine ⟨w, ?_, hs, Nat.le_refl _, fun e he => .inl he⟩
    rw [run_mayBeOne]
    have ha := sgW_sim hs a
    have hb := sgW_sim hs b
    have : mbW w a b = mbW v a b := by
      unfold mbW
      rw [ha.1, hb.1]
      cases h1 : sgW v a <;> cases h2 : sgW v b <;> simp only [Bool.false_and, Bool.true_and, Bool.false_or, Bool.true_or]
      · exact hb.2 h2
      · rw [ha.2 h1]
    rw [this]
  · rw [run_mayBeOne] at hr
    cases hr
    exact ⟨rfl, Nat.le_refl _, fun τ _ => by rw [run_mayBeOne]; rfl⟩
  · rw [run_mayBeOne] at hr
    cases hr
end
attribute [local irreducible] Plain
section
variable {P : Program} {α β : Type}
theorem okay_pure (a : α) : Okay P (pure a : Sem α) := Okay.of (plain_pure a)
theorem okay_stuck (s : String) : Okay P (stuck s : Sem α) := Okay.of (plain_stuck s)
theorem okay_uns {u : Unsupported} (h : HaltOk (.unsupported u)) : Okay P (unsupported u : Sem α) := Okay.of (plain_uns h)
theorem okay_program : Okay P program := Okay.of plain_program
theorem okay_choose (q : Question) : Okay P (choose q) := Okay.of (plain_choose q)
theorem okay_forIn {γ σ : Type} {f : γ → σ → Sem (ForInStep σ)} (h : ∀ a s, Okay P (f a s)) : ∀ (l : List γ) (s : σ), Okay P (forIn l s f)
  | [], s => by rw [List.forIn_nil]; exact okay_pure _
  | a :: l, s => by
    rw [List.forIn_cons]
    refine Okay.bind (h a s) fun r => ?_
    cases r with
    | done b => exact okay_pure _
    | yield b => exact okay_forIn h l b
theorem okay_forA {γ σ : Type} {f : γ → σ → Sem (ForInStep σ)} (h : ∀ a s, Okay P (f a s)) (l : Array γ) (s : σ) : Okay P (forIn l s f) := by
  rw [← Array.forIn_toList]
  exact okay_forIn h _ _
theorem okay_forR {σ : Type} {f : Nat → σ → Sem (ForInStep σ)} (h : ∀ a s, Okay P (f a s)) (n : Nat) (s : σ) : Okay P (forIn [0:n] s f) := by
  rw [Std.Legacy.Range.forIn_eq_forIn_range']
  exact okay_forIn h _ _
theorem okay_sameAddr (a b : Addr) : Okay P (sameAddr a b) := by
  unfold sameAddr
  (repeat' (first | with_reducible exact okay_pure _ | ((with_reducible refine okay_uns ?_); exact trivial) | with_reducible (first | exact okay_choose _ | exact okay_mayBeOne _ _ | exact Okay.of (plain_frozen _) | exact Okay.of (plain_noView _) | (refine Okay.bind ?_ (fun _ => ?_)) | (refine Okay.ite ?_ ?_))))
theorem okay_samePointer (a b : Option Addr) : Okay P (samePointer a b) := by
  unfold samePointer
  (repeat' (first | with_reducible (first | exact okay_pure _ | exact okay_sameAddr _ _) | split))
theorem okay_typeStr (t : TypeId) : Okay P (typeStr t) := by
  unfold typeStr
  (repeat' (first | with_reducible exact okay_pure _ | ((with_reducible refine okay_uns ?_); exact trivial) | with_reducible (first | exact Okay.of (plain_typeInfo _) | (refine Okay.bind ?_ (fun _ => ?_)) | (refine Okay.ite ?_ ?_))))
theorem okay_equalIn : ∀ (d : Nat) (t : TypeId) (x y : Value), Okay P (Op.equalIn d t x y)
  | 0, _, _, _ => okay_uns trivial
  | d + 1, t, x, y => by
    have ih := okay_equalIn d
    unfold Op.equalIn
    refine Okay.bind (Okay.of (plain_underlying _)) fun u => ?_
    split
    all_goals (repeat' (first | with_reducible (first | exact okay_pure _ | exact okay_stuck _) | ((with_reducible refine okay_uns ?_); exact trivial) | with_reducible (first | exact okay_program | exact okay_choose _ | exact ih _ _ _ | exact okay_sameAddr _ _ | exact okay_samePointer _ _ | exact okay_typeStr _ | exact Okay.of (plain_typeInfo _) | exact Okay.of (plain_sizeOf _) | exact Okay.of (plain_behind _) | exact Okay.of (plain_byteOf _) | exact Okay.of (plain_runtimePanic _) | exact okay_forA (fun _ _ => by (repeat' (with_reducible first | exact okay_pure _ | exact ih _ _ _ | exact Okay.of (plain_part _ _ _) | (refine Okay.bind ?_ (fun _ => ?_)) | (refine Okay.ite ?_ ?_)))) _ _ | exact okay_forR (fun _ _ => by (repeat' (with_reducible first | exact okay_pure _ | exact ih _ _ _ | exact Okay.of (plain_part _ _ _) | (refine Okay.bind ?_ (fun _ => ?_)) | (refine Okay.ite ?_ ?_)))) _ _ | (refine Okay.bind ?_ (fun _ => ?_)) | (refine Okay.ite ?_ ?_)) | split | (dsimp only)))
theorem okay_equal (t : TypeId) (x y : Value) : Okay P (Op.equal t x y) := okay_equalIn _ t x y
theorem okay_guardIn : ∀ (d : Nat) (t : TypeId) (x y : Value), Okay P (Op.eqGuardIn d t x y)
  | 0, _, _, _ => okay_uns trivial
  | d + 1, t, x, y => by
    have ih := okay_guardIn d
    unfold Op.eqGuardIn
    refine Okay.bind (Okay.of (plain_underlying _)) fun u => ?_
    split
    all_goals (repeat' (first | with_reducible (first | exact okay_pure _ | exact Okay.of (plain_sizeOf _) | exact okay_forA (fun _ _ => by (repeat' (with_reducible first | exact okay_pure _ | exact ih _ _ _ | exact Okay.of (plain_part _ _ _) | (refine Okay.bind ?_ (fun _ => ?_)) | (refine Okay.ite ?_ ?_)))) _ _ | exact okay_forR (fun _ _ => by (repeat' (with_reducible first | exact okay_pure _ | exact ih _ _ _ | exact Okay.of (plain_part _ _ _) | (refine Okay.bind ?_ (fun _ => ?_)) | (refine Okay.ite ?_ ?_)))) _ _ | (refine Okay.bind ?_ (fun _ => ?_))) | split | (dsimp only)))
theorem okay_guard (op : BinOp) (t : TypeId) (x y : Operand) (a b : Value) : Okay P (eqGuard op t x y a b) := by
  unfold eqGuard
  (repeat' (first | with_reducible exact okay_pure _ | ((with_reducible refine okay_uns ?_); exact trivial) | with_reducible (first | exact okay_program | exact okay_guardIn _ _ _ _ | (refine Okay.bind ?_ (fun _ => ?_)) | (refine Okay.ite ?_ ?_)) | split))
theorem okay_binOp (op : BinOp) (t : TypeId) (x y : Value) : Okay P (binOp op t x y) := by
  unfold binOp
  split <;> (repeat' (first | with_reducible (first | exact okay_pure _ | exact okay_stuck _) | ((with_reducible refine okay_uns ?_); exact trivial) | with_reducible (first | exact okay_equal _ _ _ | exact Okay.of (plain_shift _ _ _ _ _) | exact Okay.of (plain_intArith _ _ _ _) | exact Okay.of (plain_intDiv _ _ _ _) | exact Okay.of (plain_intBits _ _ _ _) | exact Okay.of (plain_intCmp _ _ _) | exact Okay.of (plain_floatArith _ _ _ _) | exact Okay.of (plain_floatCmp _ _ _ _) | exact Okay.of (plain_stringOp _ _ _) | exact Okay.of (plain_complex _ _ _ _ _ _) | exact Okay.of (plain_addrSub _ _ _) | exact Okay.of (plain_addrCmp _ _ _) | exact Okay.of (plain_addrMod _ _ _) | exact Okay.of (plain_movedNumber _ _ _) | exact Okay.of (plain_movedPointer _ _ _) | exact Okay.of (plain_behind _) | exact Okay.of (plain_underlying _) | (refine Okay.bind ?_ (fun _ => ?_)) | (refine Okay.ite ?_ ?_)) | split))
theorem okay_typeAssert (x : Value) (a b : TypeId) (c : Bool) : Okay P (Instr.typeAssert x a b c) := by
  unfold Instr.typeAssert
  (repeat' (first | with_reducible (first | exact okay_pure _ | exact okay_stuck _ | exact Okay.of (plain_underlying _) | exact Okay.of (plain_typeInfo _) | exact Okay.of (plain_zeroValue _) | exact Okay.of (plain_runtimePanic _) | (refine Okay.bind ?_ (fun _ => ?_)) | (refine Okay.ite ?_ ?_)) | split))
theorem okay_makeInterface (t : TypeId) (x : Value) : Okay P (Instr.makeInterface t x) := by
  unfold Instr.makeInterface
  (repeat' (first | with_reducible (first | exact okay_pure _ | exact okay_stuck _ | exact Okay.of (plain_underlying _) | (refine Okay.bind ?_ (fun _ => ?_))) | split))
theorem okay_max2 (x y : Value) : Okay P (Builtin.max2 x y) := by
  unfold Builtin.max2
  split <;> (repeat' (first | with_reducible (first | exact okay_pure _ | exact okay_stuck _) | ((with_reducible refine okay_uns ?_); exact trivial) | with_reducible (first | exact okay_choose _ | exact Okay.of (plain_stringOp _ _ _) | exact Okay.of (plain_asBool _) | (refine Okay.bind ?_ (fun _ => ?_))) | split))
theorem okay_foldMax : ∀ (l : List Value) (x : Value), Okay P (l.foldlM Builtin.max2 x)
  | [], x => by rw [List.foldlM_nil]; exact okay_pure _
  | y :: l, x => by
    rw [List.foldlM_cons]
    exact Okay.bind (okay_max2 x y) fun r => okay_foldMax l r
theorem okay_max (ts : Array TypeId) (t : TypeId) (as : Array Value) : Okay P (Builtin.max_ ts t as) := by
  unfold Builtin.max_
  split
  · exact okay_stuck _
  · exact okay_foldMax _ _
theorem okay_get (t : TypeId) (x : Place) : Okay P (x.get t) := by
  unfold Place.get
  (repeat' (first | with_reducible (first | exact okay_pure _ | exact Okay.of (plain_loadVar _ _)) | split))
theorem okay_follow : ∀ (path : List FieldStep) (t : TypeId) (x : Place), Okay P (follow path t x)
  | [], _, _ => okay_pure _
  | s :: rest, t, x => by
    have ih := okay_follow rest
    unfold follow
    (repeat' (first | with_reducible (first | exact okay_stuck _ | exact ih _ _ | exact okay_get _ _ | exact Okay.of (plain_underlying _) | exact Okay.of (plain_asAddr _) | exact Okay.of (plain_fieldPlace _ _) | exact Okay.of (plain_part _ _ _) | (refine Okay.bind ?_ (fun _ => ?_)) | (refine Okay.ite ?_ ?_)) | split))
theorem okay_wrapnil (ts : Array TypeId) (t : TypeId) (as : Array Value) : Okay P (Builtin.ssaWrapNilChk_ ts t as) := by
  unfold Builtin.ssaWrapNilChk_
  rcases as with ⟨_ | ⟨a, _ | ⟨b, _ | ⟨c, _ | ⟨d, l⟩⟩⟩⟩⟩
  case cons.cons.cons.nil =>
    cases b <;> first | exact okay_stuck _ | skip
    cases c <;> first | exact okay_stuck _ | skip
    cases a <;> first | exact okay_stuck _ | skip
    rename_i p
    cases p with
    | some _ => exact okay_pure _
    | none =>
      refine Okay.bind (s := choose (.extern "ssa:wrapnilchk.dereferenced" 2)) (okay_choose _) fun r => ?_
      (repeat' (first | with_reducible exact okay_stuck _ | ((with_reducible refine okay_uns ?_); exact trivial) | with_reducible (first | exact Okay.of (plain_underlying _) | exact Okay.of (plain_typeInfo _) | exact Okay.of (plain_runtimePanic _) | (refine Okay.bind ?_ (fun _ => ?_)) | (refine Okay.ite ?_ ?_)) | split | (dsimp only)))
  all_goals exact okay_stuck _
theorem okay_receiverAt (xt : TypeId) (x : Place) (p : Bool) (wr : Option String) : Okay P (receiverAt xt x p wr) := by
  unfold receiverAt
  (repeat' (first | with_reducible (first | exact okay_pure _ | exact okay_stuck _ | exact okay_get _ _ | exact okay_wrapnil _ _ _ | exact Okay.of (plain_underlying _) | exact Okay.of (plain_loadVar _ _) | exact Okay.of (plain_asAddr _) | (refine Okay.bind ?_ (fun _ => ?_))) | split))
theorem okay_method : ∀ (n : Nat) (t : TypeId) (v : Value) (name : String), Okay P (method n t v name)
  | 0, _, _, _ => okay_uns trivial
  | n + 1, t, v, name => by
    have ih := okay_method n
    unfold method
    (repeat' (first | with_reducible (first | exact okay_pure _ | exact okay_stuck _ | exact ih _ _ _ | exact okay_follow _ _ _ | exact okay_get _ _ | exact okay_receiverAt _ _ _ _ | exact Okay.of (plain_typeInfo _) | exact Okay.of (plain_runtimePanic _) | (refine Okay.bind ?_ (fun _ => ?_))) | split))
end
end Go.Lf

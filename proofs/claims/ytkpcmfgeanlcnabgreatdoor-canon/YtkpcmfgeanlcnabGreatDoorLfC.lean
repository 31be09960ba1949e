/-
  The operations that a lone run is made of, that make no marks.
-/
import Derived.Test.YtkpcmfgeanlcnabGreatDoorLfA
import GoSem.Step
import Derived.Laws.Sem
namespace Go.Lf
section
variable {P:Program} {α β:Type}
theorem plain_pure (a:α):Plain P (pure a:Sem α):=trivial
theorem plain_stuck (s:String):Plain P (stuck s:Sem α):=trivial
theorem plain_uns {u:Unsupported} (h:HaltOk (.unsupported u)):Plain P (unsupported u:Sem α):=h
theorem plain_goPanic (v:Value):Plain P (goPanic v:Sem α):=trivial
theorem plain_bind {s:Sem α} {f:α→Sem β} (h:Plain P s) (h':∀ a,Plain P (f a)):Plain P (s >>= f):=Plain.bind s f h h'
theorem plain_map {s:Sem α} {f:α→β} (h:Plain P s):Plain P (f <$> s):=Plain.bind s _ h fun _=>trivial
theorem plain_load (a:Addr):Plain P (load a):=⟨rfl,fun _=>trivial⟩
theorem plain_store (a:Addr) (v:Value):Plain P (store a v):=⟨rfl,trivial⟩
theorem plain_new {o:Obj} (h:NoView o):Plain P (newObj o):=⟨h,fun _=>trivial⟩
theorem plain_frozen (a:Addr):Plain P (frozen a):=fun _=>trivial
theorem plain_getObj {r:Nat} {f:Obj→Sem β} (h:∀ o o',Ghost o o' → f o=f o' ∨ Doomed P (f o')) (h':∀ o,Plain P (f o)):Plain P (getObj r >>= f):=⟨h,h'⟩
theorem ghost_both {f:Obj→Sem β} (h1:∀ a b t,f (.view a t)=f (.view b t)) (h2:∀ c t,f (.pending c t)=f (.stringIter .empty 0)):∀ o o',Ghost o o' → f o=f o' ∨ Doomed P (f o'):=by
  intro o o' g
  rcases g with ⟨a,t,rfl,rfl⟩ | ⟨c,t,rfl,rfl⟩
  · exact .inl (h1 _ _ _)
  · exact .inl (h2 _ _)
theorem plain_numberAt (r:Nat):Plain P (numberAt r):=by
  refine ⟨fun t n=>.inr rfl,fun s => ?_⟩
  cases s with
  | some x=>trivial
  | none=>
    refine ⟨fun o o' g => ?_,fun o => ?_⟩
    · rcases g with ⟨a,t,rfl,rfl⟩ | ⟨c,t,rfl,rfl⟩ <;> exact .inl rfl
    · cases o <;> trivial
theorem plain_viewBind {r:Nat} {f:Option (Addr×TypeId)→Sem β} (hd:∀ y,Doomed P (f (some y))) (hs:∀ y,Plain P (f (some y))) (hn:Plain P (f none)):Plain P (viewAt r >>= f):=by
  refine ⟨fun t n=>.inr rfl,fun s => ?_⟩
  cases s with
  | some x=>exact hn
  | none=>
    refine ⟨fun o o' g => ?_,fun o => ?_⟩
    · rcases g with ⟨a,t,rfl,rfl⟩ | ⟨c,t,rfl,rfl⟩
      · exact .inr (hd _)
      · exact .inl rfl
    · cases o <;> first | exact hn | exact hs _
theorem plain_noView (a:Addr):Plain P (noView a):=by
  refine ⟨fun t n=>.inr rfl,fun s => ?_⟩
  cases s with
  | some x=>trivial
  | none=>
    refine ⟨fun o o' g => ?_,fun o => ?_⟩
    · rcases g with ⟨a,t,rfl,rfl⟩ | ⟨c,t,rfl,rfl⟩
      · exact .inr trivial
      · exact .inl rfl
    · cases o <;> trivial
theorem plain_choose (q:Question):Plain P (choose q):=fun _=>trivial
theorem plain_program:Plain P program:=trivial
theorem plain_room (n:Nat):Plain P (askRoom n):=by
  unfold askRoom
  split
  · exact ⟨.inl rfl,trivial⟩
  · trivial
theorem plain_ite {c:Prop} [Decidable c] {a b:Sem α} (h:Plain P a) (h':Plain P b):Plain P (if c then a else b):=by split <;> assumption
end
attribute [local irreducible] Plain
section
variable {P:Program} {α β:Type}
theorem plain_typeInfo (t:TypeId):Plain P (typeInfo t):=by unfold typeInfo;(repeat' (first | with_reducible (first | exact plain_pure _ | exact plain_stuck _ | exact plain_program | (refine plain_bind ?_ (fun _ => ?_))) | split))
theorem plain_underlying (t:TypeId):Plain P (underlying t):=by unfold underlying;(repeat' (first | with_reducible (first | exact plain_pure _ | exact plain_stuck _ | exact plain_program | (refine plain_bind ?_ (fun _ => ?_))) | split))
theorem plain_zeroValue (t:TypeId):Plain P (zeroValue t):=by have:=plain_typeInfo (P:=P) t;unfold zeroValue;(repeat' (first | with_reducible (first | assumption | exact plain_pure _) | ((with_reducible refine plain_uns ?_);exact trivial) | with_reducible (refine plain_bind ?_ (fun _ => ?_)) | split))
theorem plain_sizeOf (t:TypeId):Plain P (sizeOf t):=by have:=plain_typeInfo (P:=P) t;unfold sizeOf;(repeat' (with_reducible first | assumption | exact plain_pure _ | (refine plain_bind ?_ (fun _ => ?_))))
theorem plain_isAgg (t:TypeId):Plain P (isAgg t):=by have:=plain_underlying (P:=P) t;unfold isAgg;(repeat' (first | with_reducible (first | assumption | exact plain_pure _ | (refine plain_bind ?_ (fun _ => ?_))) | split))
theorem plain_elemOf (t:TypeId):Plain P (elemOf t):=by have:=plain_underlying (P:=P) t;unfold elemOf;(repeat' (first | with_reducible (first | assumption | exact plain_pure _ | exact plain_stuck _ | (refine plain_bind ?_ (fun _ => ?_))) | split))
theorem plain_loadCellsFrom (a:Addr):∀ (n i:Nat) (acc:Array Value),Plain P (loadCellsFrom a i n acc)
  | 0,_,acc=>plain_pure acc
  | n+1,i,acc=>by
    unfold loadCellsFrom
    exact plain_bind (plain_load _) fun v=>plain_loadCellsFrom a n _ _
theorem plain_loadCells (a:Addr) (n:Nat):Plain P (loadCells a n):=plain_loadCellsFrom a n 0 #[]
theorem plain_storeCells (a:Addr):∀ (vs:List Value) (i:Nat),Plain P (storeCells a vs i)
  | [],_=>plain_pure ()
  | v :: r,i=>by
    unfold storeCells
    exact plain_bind (plain_store _ _) fun _=>plain_storeCells a r _
theorem plain_loadVar (t:TypeId) (a:Addr):Plain P (loadVar t a):=by
  have:=plain_isAgg (P:=P) t
  have:=plain_sizeOf (P:=P) t
  unfold loadVar
  (repeat' (with_reducible first | assumption | exact plain_pure _ | exact plain_load _ | exact plain_loadCells _ _ | (refine plain_bind ?_ (fun _ => ?_)) | (refine plain_ite ?_ ?_)))
theorem plain_storeVar (t:TypeId) (a:Addr) (v:Value):Plain P (storeVar t a v):=by
  have h1:=plain_sizeOf (P:=P) t
  unfold storeVar
  (repeat' (with_reducible first | assumption | exact plain_stuck _ | exact plain_storeCells _ _ _ | (refine plain_bind ?_ (fun _ => ?_)) | (refine plain_ite ?_ ?_)))
theorem plain_newCells (t:TypeId) (cs:Array Value) (fr:Nat×Nat):Plain P (newObj (.cells cs t fr)):=plain_new (o:=.cells cs t fr) trivial
theorem plain_newRow (t:TypeId) (cs:Array Value):Plain P (newRow t cs):=by unfold newRow;(repeat' (with_reducible first | exact plain_pure _ | exact plain_newCells _ _ _ | (refine plain_bind ?_ (fun _ => ?_))))
theorem plain_newVar (t:TypeId) (v:Value):Plain P (newVar t v):=plain_newRow t _
theorem plain_runtimePanic (e:RuntimeError):Plain P (runtimePanic e:Sem α):=by
  unfold runtimePanic
  (repeat' (first | with_reducible (first | exact plain_goPanic _ | exact plain_program | exact plain_newVar _ _ | exact plain_elemOf _ | (refine plain_bind ?_ (fun _ => ?_))) | split))
theorem plain_boundsPanic (k:IntKind) (x y:Int) (c:BoundsCode):Plain P (boundsPanic k x y c:Sem α):=by
  unfold boundsPanic
  (repeat' (with_reducible first | exact plain_pure _ | exact plain_choose _ | exact plain_runtimePanic _ | (refine plain_bind ?_ (fun _ => ?_)) | (refine plain_map ?_) | (refine plain_ite ?_ ?_)))
theorem plain_asIntOf (v:Value):Plain P (asIntOf v):=by unfold asIntOf;(repeat' (first | with_reducible (first | exact plain_pure _ | exact plain_stuck _) | ((with_reducible refine plain_uns ?_);exact trivial) | split))
theorem plain_asInt (v:Value):Plain P (asInt v):=by have:=plain_asIntOf (P:=P) v;unfold asInt;(repeat' (with_reducible first | assumption | exact plain_pure _ | (refine plain_bind ?_ (fun _ => ?_))))
theorem plain_asBool (v:Value):Plain P (asBool v):=by unfold asBool;(repeat' (first | with_reducible (first | exact plain_pure _ | exact plain_stuck _) | split))
theorem plain_sureAddr (v:Value):Plain P (Instr.sureAddr v):=by unfold Instr.sureAddr;(repeat' (first | with_reducible (first | exact plain_pure _ | exact plain_stuck _) | split))
theorem plain_asAddr (v:Value):Plain P (asAddr v):=by
  unfold asAddr
  (repeat' (first | with_reducible (first | exact plain_pure _ | exact plain_stuck _ | exact plain_runtimePanic _) | split))
theorem plain_alloc (t:TypeId) (b:Bool) (o:Value):Plain P (Instr.alloc t b o):=by unfold Instr.alloc;(repeat' (first | with_reducible (first | exact plain_pure _ | exact plain_zeroValue _ | exact plain_storeVar _ _ _ | exact plain_newVar _ _ | (refine plain_bind ?_ (fun _ => ?_))) | split))
theorem plain_loadAt (t:TypeId) (v:Value):Plain P (Instr.loadAt t v):=by unfold Instr.loadAt;(repeat' (with_reducible first | exact plain_loadVar _ _ | exact plain_sureAddr _ | (refine plain_bind ?_ (fun _ => ?_))))
theorem plain_storeAt (t:TypeId) (v u:Value):Plain P (Instr.storeAt t v u):=by unfold Instr.storeAt;(repeat' (with_reducible first | exact plain_storeVar _ _ _ | exact plain_sureAddr _ | (refine plain_bind ?_ (fun _ => ?_))))
theorem plain_indexAt (t:TypeId) (x i:Value):Plain P (Instr.indexAt t x i):=by unfold Instr.indexAt;(repeat' (first | with_reducible (first | exact plain_pure _ | exact plain_stuck _) | ((with_reducible refine plain_uns ?_);exact trivial) | with_reducible (first | exact plain_underlying _ | exact plain_sizeOf _ | exact plain_boundsPanic _ _ _ _ | exact plain_asIntOf _ | exact plain_sureAddr _ | (refine plain_bind ?_ (fun _ => ?_)) | (refine plain_ite ?_ ?_)) | split))
theorem plain_sliceBound (x:Value) (y:Nat) (c:BoundsCode):Plain P (Instr.sliceBound x y c):=by unfold Instr.sliceBound;(repeat' (with_reducible first | exact plain_pure _ | exact plain_boundsPanic _ _ _ _ | exact plain_asIntOf _ | (refine plain_bind ?_ (fun _ => ?_)) | (refine plain_ite ?_ ?_)))
theorem plain_sliceBounds (b:Bool) (l c:Nat) (lo hi mx:Option Value):Plain P (Instr.sliceBounds b l c lo hi mx):=by
  unfold Instr.sliceBounds
  (repeat' (first | with_reducible (first | exact plain_pure _ | exact plain_stuck _ | exact plain_sliceBound _ _ _ | (refine plain_bind ?_ (fun _ => ?_))) | split))
theorem plain_slice (t:TypeId) (x:Value) (lo hi mx:Option Value):Plain P (Instr.slice t x lo hi mx):=by
  unfold Instr.slice
  (repeat' (first | with_reducible (first | exact plain_pure _ | exact plain_stuck _ | exact plain_sliceBounds _ _ _ _ _ _ | exact plain_underlying _ | exact plain_sizeOf _ | exact plain_asAddr _ | (refine plain_bind ?_ (fun _ => ?_)) | (refine plain_ite ?_ ?_)) | split))
theorem plain_sliceAt (t:TypeId) (x:Value) (lo hi mx:Option Value):Plain P (Instr.sliceAt t x lo hi mx):=by
  unfold Instr.sliceAt
  (repeat' (first | with_reducible (first | exact plain_pure _ | exact plain_sliceBounds _ _ _ _ _ _ | exact plain_slice _ _ _ _ _ | exact plain_underlying _ | exact plain_sizeOf _ | exact plain_sureAddr _ | (refine plain_bind ?_ (fun _ => ?_))) | split))
theorem plain_makeSlice (t:TypeId) (l c:Value):Plain P (Instr.makeSlice t l c):=by unfold Instr.makeSlice;(repeat' (first | with_reducible (first | exact plain_pure _ | exact plain_stuck _ | exact plain_choose _ | exact plain_room _ | exact plain_typeInfo _ | exact plain_underlying _ | exact plain_zeroValue _ | exact plain_sizeOf _ | exact plain_newRow _ _ | exact plain_runtimePanic _ | exact plain_asInt _ | (refine plain_bind ?_ (fun _ => ?_)) | (refine plain_ite ?_ ?_)) | split))
theorem plain_extract (t:Value) (i:Nat):Plain P (Instr.extract t i):=by unfold Instr.extract;(repeat' (first | with_reducible (first | exact plain_pure _ | exact plain_stuck _) | split))
theorem plain_unary (o:UnOp) (x:Value):Plain P (Op.unary o x):=by unfold Op.unary Op.intArith Op.intBits;(repeat' (first | with_reducible (first | exact plain_pure _ | exact plain_stuck _) | ((with_reducible refine plain_uns ?_);exact trivial) | split))
theorem plain_shape {r:Nat} {f:Option (TypeId×Nat)→Sem β} (h:∀ t n,Doomed P (f (some (t,0)))∨f (some (t,n))=f (some (t,0))) (h':∀ s,Plain P (f s)):Plain P (shape r >>= f):=by
  unfold Plain
  exact ⟨h,h'⟩
theorem plain_behind (a:Addr):Plain P (behindNumber a):=by unfold behindNumber;(repeat' (with_reducible first | exact plain_pure _ | exact plain_numberAt _ | (refine plain_bind ?_ (fun _ => ?_))))
theorem plain_byteOf (a:Addr):Plain P (byteOf a):=by
  unfold byteOf
  split
  · (repeat' (with_reducible exact plain_pure _))
  refine plain_bind plain_program fun p=>plain_bind (plain_noView a) fun _=>plain_shape (fun _ _=>.inr rfl) fun s => ?_
  (repeat' (first | with_reducible (first | exact plain_pure _ | exact plain_stuck _ | (refine plain_ite ?_ ?_)) | split))
theorem plain_partAt (a:Addr) (c b:Nat):Plain P (partAt a c b):=by unfold partAt;(repeat' (with_reducible first | exact plain_pure _ | exact plain_byteOf _ | (refine plain_bind ?_ (fun _ => ?_))))
theorem plain_fieldPlace (a:Addr) (f:Field):Plain P (fieldPlace a f):=by unfold fieldPlace;(repeat' (with_reducible first | exact plain_pure _ | exact plain_partAt _ _ _ | exact plain_sizeOf _ | (refine plain_bind ?_ (fun _ => ?_)) | (refine plain_ite ?_ ?_)))
theorem plain_fieldAt (t:TypeId) (x:Value) (f:Nat):Plain P (Instr.fieldAt t x f):=by unfold Instr.fieldAt;(repeat' (first | with_reducible (first | exact plain_pure _ | exact plain_stuck _ | exact plain_fieldPlace _ _ | exact plain_underlying _ | exact plain_sureAddr _ | (refine plain_bind ?_ (fun _ => ?_))) | split))
theorem plain_part (t:TypeId) (cs:Array Value) (o:Nat):Plain P (part t cs o):=by unfold part;(repeat' (first | with_reducible (first | exact plain_pure _ | exact plain_stuck _ | exact plain_sizeOf _ | exact plain_isAgg _ | (refine plain_bind ?_ (fun _ => ?_)) | (refine plain_ite ?_ ?_)) | split))
theorem plain_asAgg (v:Value):Plain P (asAgg v):=by unfold asAgg;(repeat' (first | with_reducible (first | exact plain_pure _ | exact plain_stuck _) | split))
theorem plain_field (t:TypeId) (x:Value) (f:Nat):Plain P (Instr.field t x f):=by unfold Instr.field;(repeat' (first | with_reducible (first | exact plain_stuck _ | exact plain_underlying _ | exact plain_part _ _ _ | exact plain_asAgg _ | (refine plain_bind ?_ (fun _ => ?_))) | split))
theorem plain_index (t:TypeId) (x i:Value):Plain P (Instr.index t x i):=by unfold Instr.index;(repeat' (first | with_reducible (first | exact plain_pure _ | exact plain_stuck _ | exact plain_underlying _ | exact plain_part _ _ _ | exact plain_sizeOf _ | exact plain_asIntOf _ | exact plain_boundsPanic _ _ _ _ | (refine plain_bind ?_ (fun _ => ?_)) | (refine plain_ite ?_ ?_)) | split))
theorem plain_buildSlice (t:TypeId) (n:Nat) (ps:Array (Nat×Value)):Plain P (Instr.buildSlice t n ps):=by unfold Instr.buildSlice;(repeat' (first | with_reducible (first | exact plain_pure _ | exact plain_stuck _) | ((with_reducible refine plain_uns ?_);exact trivial) | with_reducible (first | exact plain_underlying _ | exact plain_zeroValue _ | exact plain_sizeOf _ | exact plain_newRow _ _ | (refine plain_bind ?_ (fun _ => ?_)) | (refine plain_ite ?_ ?_)) | split | (dsimp only)))
theorem plain_box (t:TypeId) (v:Value):Plain P (Instr.box t v):=by unfold Instr.box;(repeat' (with_reducible first | exact plain_pure _ | exact plain_newVar _ _ | (refine plain_bind ?_ (fun _ => ?_))))
theorem plain_lenOf (v:Value):Plain P (Builtin.lenOf v):=by unfold Builtin.lenOf;(repeat' (first | with_reducible (first | exact plain_pure _ | exact plain_stuck _) | split))
theorem plain_firstCells (a b:Nat) (v:Value):Plain P (Builtin.firstCells a b v):=by unfold Builtin.firstCells;(repeat' (first | with_reducible (first | exact plain_pure _ | exact plain_stuck _ | exact plain_loadCells _ _) | split))
theorem plain_copy (ts:Array TypeId) (t:TypeId) (as:Array Value):Plain P (Builtin.copy_ ts t as):=by unfold Builtin.copy_;(repeat' (first | with_reducible (first | exact plain_pure _ | exact plain_stuck _ | exact plain_underlying _ | exact plain_lenOf _ | exact plain_firstCells _ _ _ | exact plain_sizeOf _ | exact plain_storeCells _ _ _ | (refine plain_bind ?_ (fun _ => ?_))) | split))
theorem plain_len (ts:Array TypeId) (t:TypeId) (as:Array Value):Plain P (Builtin.len_ ts t as):=by unfold Builtin.len_;(repeat' (first | with_reducible (first | exact plain_pure _ | exact plain_stuck _ | exact plain_underlying _) | ((with_reducible refine plain_getObj ?_ ?_);(focus (exact ghost_both (fun _ _ _=>rfl) (fun _ _=>rfl)));(intro _)) | with_reducible (refine plain_bind ?_ (fun _ => ?_)) | split))
theorem plain_cap (ts:Array TypeId) (t:TypeId) (as:Array Value):Plain P (Builtin.cap_ ts t as):=by unfold Builtin.cap_;(repeat' (first | with_reducible (first | exact plain_pure _ | exact plain_stuck _ | exact plain_underlying _) | ((with_reducible refine plain_getObj ?_ ?_);(focus (exact ghost_both (fun _ _ _=>rfl) (fun _ _=>rfl)));(intro _)) | with_reducible (refine plain_bind ?_ (fun _ => ?_)) | split))
end
end Go.Lf
namespace Go.Lf
def Soft (P:Program) {α:Type}:Sem α→Prop
  | .pure _=>True
  | .load m _ k=>m = .plain∧∀ v,Soft P (k v)
  | .store m _ _ k=>m = .plain∧Soft P k
  | .new o k=>NoView o∧∀ r,Soft P (k r)
  | .shape _ k=>∀ s,Soft P (k s)
  | .freeze _ _ _=>False
  | .frozen _ k=>∀ b,Soft P (k b)
  | .getObj _ k=>(∀ o o',Ghost o o' → k o=k o')∧∀ o,Soft P (k o)
  | .setObj _ _ _=>False
  | .choose _ k=>∀ n,Soft P (k n)
  | .sys _ _=>False
  | .program k=>Soft P (k P)
  | .mark m k=>OkMark m∧Soft P k
  | .halt h=>HaltOk h
section
variable {P:Program} {α β:Type}
theorem Soft.bind:∀ (s:Sem α) (f:α→Sem β),Soft P s→(∀ a,Soft P (f a))→Soft P (s.bind f)
  | .pure a,_,_,h=>h a
  | .load _ _ k,f,h,h'=>⟨h.1,fun v=>Soft.bind (k v) f (h.2 v) h'⟩
  | .store _ _ _ k,f,h,h'=>⟨h.1,Soft.bind k f h.2 h'⟩
  | .new _ k,f,h,h'=>⟨h.1,fun v=>Soft.bind (k v) f (h.2 v) h'⟩
  | .shape _ k,f,h,h'=>fun v=>Soft.bind (k v) f (h v) h'
  | .freeze _ _ _,_,h,_=>h.elim
  | .frozen _ k,f,h,h'=>fun v=>Soft.bind (k v) f (h v) h'
  | .getObj _ k,f,h,h'=>⟨fun o o' g=>congrArg (fun s=>Sem.bind s f) (h.1 o o' g),fun v=>Soft.bind (k v) f (h.2 v) h'⟩
  | .setObj _ _ _,_,h,_=>h.elim
  | .choose _ k,f,h,h'=>fun v=>Soft.bind (k v) f (h v) h'
  | .sys _ _,_,h,_=>h.elim
  | .program k,f,h,h'=>Soft.bind (k P) f h h'
  | .mark _ k,f,h,h'=>⟨h.1,Soft.bind k f h.2 h'⟩
  | .halt _,_,h,_=>h
theorem Soft.doom:∀ (s:Sem α) (f:α→Sem β),Soft P s→(∀ a,Doomed P (f a))→(∀ a,Plain P (f a))→Plain P (s.bind f)
  | .pure a,_,_,_,h=>h a
  | .load _ _ k,f,h,hd,h'=>⟨h.1,fun v=>Soft.doom (k v) f (h.2 v) hd h'⟩
  | .store _ _ _ k,f,h,hd,h'=>⟨h.1,Soft.doom k f h.2 hd h'⟩
  | .new _ k,f,h,hd,h'=>⟨h.1,fun v=>Soft.doom (k v) f (h.2 v) hd h'⟩
  | .shape _ k,f,h,hd,h'=>⟨fun _ _=>.inl (Doomed.late _ f hd),fun v=>Soft.doom (k v) f (h v) hd h'⟩
  | .freeze _ _ _,_,h,_,_=>h.elim
  | .frozen _ k,f,h,hd,h'=>fun v=>Soft.doom (k v) f (h v) hd h'
  | .getObj _ k,f,h,hd,h'=>⟨fun o o' g=>.inl (congrArg (fun s=>Sem.bind s f) (h.1 o o' g)),fun v=>Soft.doom (k v) f (h.2 v) hd h'⟩
  | .setObj _ _ _,_,h,_,_=>h.elim
  | .choose _ k,f,h,hd,h'=>fun v=>Soft.doom (k v) f (h v) hd h'
  | .sys _ _,_,h,_,_=>h.elim
  | .program k,f,h,hd,h'=>Soft.doom (k P) f h hd h'
  | .mark _ k,f,h,hd,h'=>⟨h.1,Soft.doom k f h.2 hd h'⟩
  | .halt _,_,h,_,_=>h
theorem soft_pure (a:α):Soft P (pure a:Sem α):=trivial
theorem soft_bind {s:Sem α} {f:α→Sem β} (h:Soft P s) (h':∀ a,Soft P (f a)):Soft P (s >>= f):=Soft.bind s f h h'
theorem soft_shape (r:Nat):Soft P (shape r):=fun _=>trivial
theorem soft_frozen (a:Addr):Soft P (frozen a):=fun _=>trivial
theorem doomed_uns (u:Unsupported):Doomed P (unsupported u:Sem α):=trivial
theorem doomed_late {s:Sem α} {f:α→Sem β} (h:∀ a,Doomed P (f a)):Doomed P (s >>= f):=Doomed.late s f h
theorem plain_doom {s:Sem α} {f:α→Sem β} (h:Soft P s) (hd:∀ a,Doomed P (f a)) (h':∀ a,Plain P (f a)):Plain P (s >>= f):=Soft.doom s f h hd h'
theorem plain_mark:Plain P (mark .noRoom):=⟨.inl rfl,trivial⟩
theorem plain_under {t:TypeId} {d:TypeDesc} (h:P.underlying t=some d) {f:TypeDesc→Sem β} (hf:Plain P (f d)):Plain P (underlying t >>= f):=by
  show Plain P ((match P.underlying t with | some d=>pure d | none=>stuck "no such type" : Sem TypeDesc).bind f)
  rw [h]
  exact hf
end
attribute [local irreducible] Plain Soft
section
variable {P:Program} {α β:Type}
theorem soft_holds (a:Addr) (n:Nat):Soft P (Builtin.holdsCells a n):=by
  unfold Builtin.holdsCells
  exact soft_bind (soft_shape _) fun s=>by split <;> exact soft_pure _
theorem soft_mayShare (a b c:Nat) (o:Option Addr) (x:Value):Soft P (Builtin.mayShare a b c o x):=by
  unfold Builtin.mayShare
  dsimp only
  repeat' (first | with_reducible exact soft_pure _ | with_reducible exact soft_holds _ _ | with_reducible exact soft_frozen _ | with_reducible refine soft_bind ?_ (fun _ => ?_) | split | dsimp only)
theorem plain_append (ts:Array TypeId) (t:TypeId) (as:Array Value):Plain P (Builtin.append_ ts t as):=by
  have hdoom:∀ {γ:Type} (sz sLen n:Nat) (base:Option Addr) (x:Value),Plain P (Builtin.mayShare sz sLen n base x >>= fun b=>if (!b)=true then (mark .noRoom >>= fun _=>(unsupported (.resourceLimit "append: a slice or a string whose bytes no memory bears"):Sem γ)) else unsupported (.resourceLimit "append: a slice or a string whose bytes no memory bears")):=fun sz sLen n base x=>by
    refine plain_doom (soft_mayShare _ _ _ _ _) (fun a => ?_) (fun a => ?_)
    · split
      · exact doomed_late fun _=>doomed_uns _
      · exact doomed_uns _
    · (repeat' (first | ((with_reducible refine plain_uns ?_);exact trivial) | with_reducible (first | exact plain_mark | (refine plain_bind ?_ (fun _ => ?_)) | (refine plain_ite ?_ ?_))))
  unfold Builtin.append_
  (repeat' (first | with_reducible (first | exact plain_pure _ | exact plain_stuck _ | exact plain_choose _ | exact plain_room _ | exact plain_underlying _ | exact plain_sizeOf _ | exact plain_asInt _ | exact plain_typeInfo _ | exact plain_runtimePanic _ | exact plain_lenOf _ | exact plain_firstCells _ _ _ | exact plain_zeroValue _ | exact plain_storeCells _ _ _ | exact plain_newRow _ _ | exact hdoom _ _ _ _ _ | (refine plain_bind ?_ (fun _ => ?_)) | (refine plain_ite ?_ ?_)) | split))
theorem plain_shift (op:BinOp) (k:IntKind) (x:Int) (yk:IntKind) (y:Int):Plain P (Op.shift op k x yk y):=by unfold Op.shift;(repeat' (first | with_reducible (first | exact plain_pure _ | exact plain_stuck _ | exact plain_runtimePanic _ | (refine plain_ite ?_ ?_)) | split))
theorem plain_intArith (op:BinOp) (k:IntKind) (x y:Int):Plain P (Op.intArith op k x y):=by unfold Op.intArith;(repeat' (first | with_reducible (first | exact plain_pure _ | exact plain_stuck _) | split))
theorem plain_intDiv (op:BinOp) (k:IntKind) (x y:Int):Plain P (Op.intDiv op k x y):=by unfold Op.intDiv;(repeat' (first | with_reducible (first | exact plain_pure _ | exact plain_stuck _ | exact plain_runtimePanic _ | (refine plain_ite ?_ ?_)) | split))
theorem plain_intBits (op:BinOp) (k:IntKind) (x y:Int):Plain P (Op.intBits op k x y):=by unfold Op.intBits;(repeat' (first | with_reducible (first | exact plain_pure _ | exact plain_stuck _) | split))
theorem plain_intCmp (op:BinOp) (x y:Int):Plain P (Op.intCmp op x y):=by unfold Op.intCmp;(repeat' (first | with_reducible (first | exact plain_pure _ | exact plain_stuck _) | split))
theorem plain_floatArith (op:BinOp) (k:FloatKind) (x y:Nat):Plain P (Op.floatArith op k x y):=by unfold Op.floatArith;(repeat' (first | with_reducible (first | exact plain_pure _ | exact plain_stuck _ | exact plain_choose _ | (refine plain_bind ?_ (fun _ => ?_))) | split | (dsimp only)))
theorem plain_floatCmp (op:BinOp) (k:FloatKind) (x y:Nat):Plain P (Op.floatCmp op k x y):=by unfold Op.floatCmp;(repeat' (first | with_reducible (first | exact plain_pure _ | exact plain_stuck _) | split))
theorem plain_stringOp (op:BinOp) (x y:ByteArray):Plain P (Op.stringOp op x y):=by unfold Op.stringOp;(repeat' (first | with_reducible (first | exact plain_pure _ | exact plain_stuck _) | ((with_reducible refine plain_uns ?_);exact trivial) | with_reducible (refine plain_ite ?_ ?_) | split))
theorem plain_f2f (a:FloatKind) (b:Nat) (c:FloatKind):Plain P (Conv.floatToFloat a b c):=by unfold Conv.floatToFloat;(repeat' (first | with_reducible (first | exact plain_pure _ | exact plain_choose _ | (refine plain_bind ?_ (fun _ => ?_)) | (refine plain_ite ?_ ?_)) | split))
theorem plain_carith (op:BinOp) (k:FloatKind) (x y:Nat):Plain P (Op.Complex.arith op k x y):=by unfold Op.Complex.arith;(repeat' (first | with_reducible (first | exact plain_pure _ | exact plain_stuck _ | exact plain_floatArith _ _ _ _ | (refine plain_bind ?_ (fun _ => ?_))) | split))
theorem plain_ccmp (op:BinOp) (k:FloatKind) (x y:Nat):Plain P (Op.Complex.cmp op k x y):=by unfold Op.Complex.cmp;(repeat' (with_reducible first | exact plain_floatCmp _ _ _ _ | exact plain_asBool _ | (refine plain_bind ?_ (fun _ => ?_))))
theorem plain_cconv (a:FloatKind) (b:Nat) (c:FloatKind):Plain P (Op.Complex.conv a b c):=by unfold Op.Complex.conv;(repeat' (first | with_reducible (first | exact plain_pure _ | exact plain_stuck _ | exact plain_f2f _ _ _ | (refine plain_bind ?_ (fun _ => ?_)) | (refine plain_ite ?_ ?_)) | split))
theorem plain_cprod (a b c d:Nat):Plain P (Op.Complex.product a b c d):=by unfold Op.Complex.product Op.Complex.add Op.Complex.sub Op.Complex.mul;(repeat' (with_reducible first | exact plain_pure _ | exact plain_carith _ _ _ _ | (refine plain_bind ?_ (fun _ => ?_))))
theorem plain_ccorr (s a b c d:Nat):Plain P (Op.Complex.corrected s a b c d):=by unfold Op.Complex.corrected Op.Complex.add Op.Complex.sub Op.Complex.mul;(repeat' (with_reducible first | exact plain_pure _ | exact plain_carith _ _ _ _ | (refine plain_bind ?_ (fun _ => ?_))))
theorem plain_cquot (a b c d:Nat):Plain P (Op.Complex.quotient a b c d):=by unfold Op.Complex.quotient Op.Complex.add Op.Complex.sub Op.Complex.mul Op.Complex.quo;(repeat' (with_reducible first | exact plain_pure _ | exact plain_carith _ _ _ _ | exact plain_ccmp _ _ _ _ | exact plain_ccorr _ _ _ _ _ | (refine plain_bind ?_ (fun _ => ?_)) | (refine plain_ite ?_ ?_)))
theorem plain_complex (op:BinOp) (k:FloatKind) (a b c d:Nat):Plain P (Op.complexOp op k a b c d):=by unfold Op.complexOp;(repeat' (first | with_reducible (first | exact plain_pure _ | exact plain_stuck _ | exact plain_carith _ _ _ _ | exact plain_ccmp _ _ _ _ | exact plain_cconv _ _ _ | exact plain_cprod _ _ _ _ | exact plain_cquot _ _ _ _ | (refine plain_bind ?_ (fun _ => ?_)) | (refine plain_ite ?_ ?_)) | split))
theorem cellAt_zero (p:Program) (d:Nat) (e:TypeId) (off:Nat) (b:Int):cellAtBytes p d e 0 off b=none:=by
  unfold cellAtBytes
  dsimp only
  split
  · rfl
  · cases byteOfCell p d e (off % p.cellsOf e) with
    | none=>rfl
    | some here=>
      simp only [Nat.zero_mul,Option.bind_eq_bind,Option.bind_some]
      rw [if_pos]
      · rfl
      · rw [Bool.or_eq_true,decide_eq_true_iff,decide_eq_true_iff]
        have:∀ z:Int,z < 0∨z≥Int.ofNat 0:=fun z=>by have:Int.ofNat 0=0:=rfl;omega
        exact this _
theorem plain_unsafeAdd (t:TypeId) (x y:Value):Plain P (Builtin.unsafeAdd_ #[] t #[x,y]):=by
  have hd:∀ (a:Addr) (n:Int) (e:TypeId),Doomed P (program >>= fun p=>match cellAtBytes p p.depth e (0 / p.cellsOf e) a.off n with
        | some off=>(pure (.pointer (some { a with off })):Sem Value)
        | none=>unsupported (.unsafePointer "Add")):=fun a n e=>by
    show Doomed P (match cellAtBytes P P.depth e (0 / P.cellsOf e) a.off n with
        | some off=>(pure (.pointer (some { a with off })):Sem Value)
        | none=>unsupported (.unsafePointer "Add"))
    rw [Nat.zero_div,cellAt_zero]
    exact doomed_uns _
  unfold Builtin.unsafeAdd_
  cases x with
  | pointer ptr=>
    dsimp only
    refine plain_bind (plain_asInt _) fun n => ?_
    cases ptr with
    | none=>(repeat' (first | ((with_reducible refine plain_uns ?_);exact trivial) | with_reducible (first | (refine plain_bind ?_ (fun _ => ?_)) | (refine plain_ite ?_ ?_))))
    | some a=>
      have key:Plain P (shape a.block >>= fun s=>match s with
          | some (e,cells)=>(program >>= fun p=>match cellAtBytes p p.depth e (cells / p.cellsOf e) a.off n with
            | some off=>(pure (.pointer (some { a with off })):Sem Value)
            | none=>unsupported (.unsafePointer "Add"))
          | _=>unsupported (.unsafePointer "Add")):=by
        refine plain_shape (fun t m=>.inl (hd a n t)) fun s=>by (repeat' (first | with_reducible exact plain_pure _ | ((with_reducible refine plain_uns ?_);exact trivial) | with_reducible (first | exact plain_program | (refine plain_bind ?_ (fun _ => ?_))) | split))
      refine plain_ite ?_ ?_
      · exact plain_viewBind (fun _=>trivial) (fun _=>plain_bind (plain_uns trivial) fun _=>plain_pure _) (plain_pure _)
      · refine plain_ite ?_ ?_
        · exact plain_bind (plain_uns trivial) fun _=>key
        · exact key
  | _=>exact plain_stuck _
theorem plain_twoPlaces (a b:Addr):Plain P (Op.twoPlaces a b):=by unfold Op.twoPlaces;(repeat' (first | with_reducible exact plain_pure _ | ((with_reducible refine plain_uns ?_);exact trivial) | with_reducible (first | exact plain_program | exact plain_byteOf _ | (refine plain_bind ?_ (fun _ => ?_)) | (refine plain_ite ?_ ?_))))
theorem plain_addrSub (k:IntKind) (a b:Addr):Plain P (Op.addrSub k a b):=by unfold Op.addrSub;(repeat' (with_reducible first | exact plain_pure _ | exact plain_twoPlaces _ _ | (refine plain_bind ?_ (fun _ => ?_))))
theorem plain_addrCmp (op:BinOp) (a b:Addr):Plain P (Op.addrCmp op a b):=by unfold Op.addrCmp;(repeat' (first | with_reducible exact plain_pure _ | ((with_reducible refine plain_uns ?_);exact trivial) | with_reducible (first | exact plain_twoPlaces _ _ | (refine plain_bind ?_ (fun _ => ?_))) | split))
theorem plain_addrMod (k:IntKind) (a:Addr) (n:Int):Plain P (Op.addrMod k a n):=by
  unfold Op.addrMod
  exact plain_shape (fun _ _=>.inr rfl) fun s=>by (repeat' (first | with_reducible exact plain_pure _ | ((with_reducible refine plain_uns ?_);exact trivial) | with_reducible (first | exact plain_typeInfo _ | exact plain_byteOf _ | (refine plain_bind ?_ (fun _ => ?_)) | (refine plain_ite ?_ ?_)) | split))
theorem plain_asNumber (a:Addr) (l:Bool):Plain P (asNumber a l):=by unfold asNumber;exact plain_bind (plain_new (o:=.number a l) trivial) fun _=>plain_pure _
theorem plain_movedNumber (t:TypeId) (x y:Value):Plain P (movedNumber t x y):=by unfold movedNumber;(repeat' (first | with_reducible exact plain_pure _ | ((with_reducible refine plain_uns ?_);exact trivial) | with_reducible (first | exact plain_underlying _ | exact plain_unsafeAdd _ _ _ | exact plain_behind _ | exact plain_asNumber _ _ | (refine plain_bind ?_ (fun _ => ?_)) | (refine plain_ite ?_ ?_)) | split))
theorem plain_movedPointer (t:TypeId) (x y:Value):Plain P (movedPointer t x y):=by unfold movedPointer;(repeat' (first | ((with_reducible refine plain_uns ?_);exact trivial) | with_reducible (first | exact plain_numberAt _ | exact plain_unsafeAdd _ _ _ | (refine plain_bind ?_ (fun _ => ?_)) | (refine plain_ite ?_ ?_)) | split))
end
end Go.Lf

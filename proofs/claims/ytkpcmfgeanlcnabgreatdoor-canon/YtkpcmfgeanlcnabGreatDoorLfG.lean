/-
  Operations that do the same in both worlds, said by what they do: comparisons of addresses among them.
-/
import Derived.Test.YtkpcmfgeanlcnabGreatDoorLfC
import Derived.Conc.Events
namespace Go.Lf
structure Okay (P:Program) {α:Type} (s:Sem α):Prop where
  sim:∀ {X:Nat→Prop} {Y:Nat→Option Obj} (w v:World) (es:Array Event) (x:α) (v':World) (es':Array Event),Sim X Y w v→s.runT P v es=(.ok x v',es') →
    ∃ w',s.runT P w es=(.ok x w',es')∧Sim X Y w' v' ∧ v.heap.size≤v'.heap.size∧∀ e∈es',e∈es∨EvP X w' e
  tape:∀ (v:World) (es:Array Event) (x:α) (v':World) (es':Array Event),(∀ (b:Nat) (o:Obj),v.heap[b]? = some o→NoView o)→s.runT P v es=(.ok x v',es') →
    v'.tape=v.tape∧v.drawn≤v'.drawn∧∀ τ:Nat→Question→Nat,(∀ p,v.drawn≤p→p < v'.drawn→τ p=v.tape p)→s.runT P { v with tape:=τ } es=(.ok x { v' with tape:=τ },es')
  halts:∀ {X:Nat→Prop} {Y:Nat→Option Obj} (w v:World) (es:Array Event) (x:Halt) (v':World) (es':Array Event),Sim X Y w v→s.runT P v es=(.halt x v',es')→HaltOk x
section
variable {P:Program} {α β:Type}
theorem Okay.of {s:Sem α} (h:Plain P s):Okay P s:=⟨fun w v es x v' es'=>sim_run s w v es x v' es' h,fun v es x v' es'=>tape_run s v es x v' es' h,fun w v es x v' es'=>plain_halts s w v es x v' es' h⟩
theorem Okay.bind {s:Sem α} {f:α→Sem β} (h:Okay P s) (h':∀ a,Okay P (f a)):Okay P (s >>= f):=by
  have e:∀ w es,(s >>= f).runT P w es=match s.runT P w es with
      | (.ok a w',es')=>(f a).runT P w' es'
      | (.halt x w',es')=>(.halt x w',es'):=fun w es=>Go.Sem.runT_bind' P s f w es
  refine ⟨fun w v es x v' es' hs hr => ?_,fun v es x v' es' hn hr => ?_,fun w v es x v' es' hs hr => ?_⟩
  · rw [e] at hr
    cases hr1:s.runT P v es with
    | mk r es1=>
      rw [hr1] at hr
      cases r with
      | halt y v1=>cases hr
      | ok a v1=>
        obtain ⟨w1,h1,h2,h3,h4⟩:=h.sim w v es a v1 es1 hs hr1
        obtain ⟨w2,g1,g2,g3,g4⟩:=(h' a).sim w1 v1 es1 x v' es' h2 hr
        refine ⟨w2,by rw [e,h1];exact g1,g2,by omega,fun ev hev => ?_⟩
        rcases g4 ev hev with g5 | g5
        · rcases h4 ev g5 with g6 | g6
          · exact .inl g6
          · exact .inr (g6.grow (by rw [h2.size,g2.size];exact g3))
        · exact .inr g5
  · rw [e] at hr
    cases hr1:s.runT P v es with
    | mk r es1=>
      rw [hr1] at hr
      cases r with
      | halt y v1=>cases hr
      | ok a v1=>
        obtain ⟨h1,h2,h3⟩:=h.tape v es a v1 es1 hn hr1
        obtain ⟨w1,_,hs1,_,_⟩:=h.sim v v es a v1 es1 (Sim.self hn) hr1
        obtain ⟨g1,g2,g3⟩:=(h' a).tape v1 es1 x v' es' hs1.nv hr
        refine ⟨g1.trans h1,by omega,fun τ hτ => ?_⟩
        rw [e,h3 τ fun p hp1 hp2=>hτ p hp1 (by omega)]
        exact g3 τ fun p hp1 hp2=>by rw [h1];exact hτ p (by omega) hp2
  · rw [e] at hr
    cases hr1:s.runT P v es with
    | mk r es1=>
      rw [hr1] at hr
      cases r with
      | halt y v1=>
        cases hr
        exact h.halts w v es x v' es' hs hr1
      | ok a v1=>
        obtain ⟨w1,_,h2,_,_⟩:=h.sim w v es a v1 es1 hs hr1
        exact (h' a).halts w1 v1 es1 x v' es' h2 hr
theorem okay_prog {k:Program→Sem α} (h:Okay P (k P)):Okay P (program >>= k):=⟨fun w v es x v' es' hs hr=>h.sim w v es x v' es' hs hr,fun v es x v' es' hn hr=>h.tape v es x v' es' hn hr,fun w v es x v' es' hs hr=>h.halts w v es x v' es' hs hr⟩
theorem Okay.ite {c:Prop} [Decidable c] {a b:Sem α} (h:Okay P a) (h':Okay P b):Okay P (if c then a else b):=by split <;> assumption
def sgW (u:World) (a:Addr):Bool:=u.frozen? a || match u.shape? a.block with
  | some (_,n)=>u.frozen? { block:=a.block,off:=n }
  | none=>false
def emW (u:World) (a:Addr):Bool:=(u.shape? a.block) matches some (_,0)
def mbW (u:World) (a b:Addr):Bool:=(sgW u a && sgW u b) || (sgW u a && emW u a) || (sgW u b && emW u b)
theorem run_frozen (a:Addr) (u:World) (es:Array Event):(frozen a).runT P u es=(.ok (u.frozen? a) u,es):=rfl
theorem run_shape (r:Nat) (u:World) (es:Array Event):(shape r).runT P u es=(.ok (u.shape? r) u,es):=rfl
theorem run_stringish (a:Addr) (u:World) (es:Array Event):(stringish a).runT P u es=(.ok (sgW u a) u,es):=by
  unfold stringish sgW
  show (Sem.bind (frozen a) _).runT P u es=_
  rw [Go.Sem.runT_bind',run_frozen]
  cases hf:u.frozen? a with
  | true=>rfl
  | false=>
    simp only [Bool.false_eq_true,if_false,Bool.false_or]
    show (Sem.bind (shape a.block) _).runT P u es=_
    rw [Go.Sem.runT_bind',run_shape]
    cases u.shape? a.block with
    | none=>rfl
    | some x=>rfl
theorem run_mayBeOne (a b:Addr) (u:World) (es:Array Event):(mayBeOne a b).runT P u es=(.ok (mbW u a b) u,es):=by
  unfold mayBeOne
  show (Sem.bind (stringish a) _).runT P u es=_
  rw [Go.Sem.runT_bind',run_stringish]
  show (Sem.bind (stringish b) _).runT P u es=_
  rw [Go.Sem.runT_bind',run_stringish]
  rfl
theorem sgW_sim {X:Nat→Prop} {Y:Nat→Option Obj} {w v:World} (h:Sim X Y w v) (a:Addr):sgW w a=sgW v a∧(sgW v a=true→emW w a=emW v a):=by
  have sh:¬ X a.block→w.shape? a.block=v.shape? a.block:=fun hx=>by
    cases hy:Y a.block with
    | some o=>
      obtain ⟨o',h1,h2,hg⟩:=h.gho _ _ hy
      simp only [World.shape?,h1,h2]
      rcases hg with ⟨b,t,rfl,rfl⟩ | ⟨c,t,rfl,rfl⟩ <;> rfl
    | none=>simp only [World.shape?,h.same a.block hx hy]
  by_cases hx:X a.block
  · have no:∀ n,v.frozen? { block:=a.block,off:=n } = false:=fun n=>by
      obtain ⟨cs,t,fr,h1,h2⟩:=h.doc _ hx
      obtain rfl:=h.unf _ _ _ _ hx h2
      simp [World.frozen?,h2]
    have nv:sgW v a=false:=by
      unfold sgW
      have h1:v.frozen? a=false:=by
        have:=no a.off
        simpa [World.frozen?] using this
      rw [h1,Bool.false_or]
      split
      · exact no _
      · rfl
    have nw:sgW w a=false:=by
      unfold sgW
      have h1:w.frozen? a=false:=by
        rw [h.frozen]
        have:=no a.off
        simpa [World.frozen?] using this
      rw [h1,Bool.false_or]
      split
      · rw [h.frozen];exact no _
      · rfl
    exact ⟨nw.trans nv.symm,fun hh=>by rw [nv] at hh;cases hh⟩
  · refine ⟨?_,fun _=>by unfold emW;rw [sh hx]⟩
    unfold sgW
    rw [sh hx,h.frozen]
    split
    · rw [h.frozen]
    · rfl
theorem okay_mayBeOne (a b:Addr):Okay P (mayBeOne a b):=by
  refine ⟨fun w v es x v' es' hs hr => ?_,fun v es x v' es' hn hr => ?_,fun w v es x v' es' hs hr => ?_⟩
  · rw [run_mayBeOne] at hr
    cases hr
    refine ⟨w,?_,hs,Nat.le_refl _,fun e he=>.inl he⟩
    rw [run_mayBeOne]
    have ha:=sgW_sim hs a
    have hb:=sgW_sim hs b
    have:mbW w a b=mbW v a b:=by
      unfold mbW
      rw [ha.1,hb.1]
      cases h1:sgW v a <;> cases h2:sgW v b <;> simp only [Bool.false_and,Bool.true_and,Bool.false_or,Bool.true_or]
      · exact hb.2 h2
      · rw [ha.2 h1]
    rw [this]
  · rw [run_mayBeOne] at hr
    cases hr
    exact ⟨rfl,Nat.le_refl _,fun τ _=>by rw [run_mayBeOne];rfl⟩
  · rw [run_mayBeOne] at hr
    cases hr
end
attribute [local irreducible] Plain
section
variable {P:Program} {α β:Type}
theorem okay_pure (a:α):Okay P (pure a:Sem α):=Okay.of (plain_pure a)
theorem okay_stuck (s:String):Okay P (stuck s:Sem α):=Okay.of (plain_stuck s)
theorem okay_uns {u:Unsupported} (h:HaltOk (.unsupported u)):Okay P (unsupported u:Sem α):=Okay.of (plain_uns h)
theorem okay_program:Okay P program:=Okay.of plain_program
theorem okay_choose (q:Question):Okay P (choose q):=Okay.of (plain_choose q)
theorem okay_forIn {γ σ:Type} {f:γ→σ→Sem (ForInStep σ)} (h:∀ a s,Okay P (f a s)):∀ (l:List γ) (s:σ),Okay P (forIn l s f)
  | [],s=>by rw [List.forIn_nil];exact okay_pure _
  | a :: l,s=>by
    rw [List.forIn_cons]
    refine Okay.bind (h a s) fun r => ?_
    cases r with
    | done b=>exact okay_pure _
    | yield b=>exact okay_forIn h l b
theorem okay_forA {γ σ:Type} {f:γ→σ→Sem (ForInStep σ)} (h:∀ a s,Okay P (f a s)) (l:Array γ) (s:σ):Okay P (forIn l s f):=by
  rw [← Array.forIn_toList]
  exact okay_forIn h _ _
theorem okay_forR {σ:Type} {f:Nat→σ→Sem (ForInStep σ)} (h:∀ a s,Okay P (f a s)) (n:Nat) (s:σ):Okay P (forIn [0:n] s f):=by
  rw [Std.Legacy.Range.forIn_eq_forIn_range']
  exact okay_forIn h _ _
theorem okay_sameAddr (a b:Addr):Okay P (sameAddr a b):=by
  unfold sameAddr
  (repeat' (first | with_reducible exact okay_pure _ | ((with_reducible refine okay_uns ?_);exact trivial) | with_reducible (first | exact okay_choose _ | exact okay_mayBeOne _ _ | exact Okay.of (plain_frozen _) | exact Okay.of (plain_noView _) | (refine Okay.bind ?_ (fun _ => ?_)) | (refine Okay.ite ?_ ?_))))
theorem okay_samePointer (a b:Option Addr):Okay P (samePointer a b):=by
  unfold samePointer
  (repeat' (first | with_reducible (first | exact okay_pure _ | exact okay_sameAddr _ _) | split))
theorem okay_typeStr (t:TypeId):Okay P (typeStr t):=by
  unfold typeStr
  (repeat' (first | with_reducible exact okay_pure _ | ((with_reducible refine okay_uns ?_);exact trivial) | with_reducible (first | exact Okay.of (plain_typeInfo _) | (refine Okay.bind ?_ (fun _ => ?_)) | (refine Okay.ite ?_ ?_))))
theorem okay_equalIn:∀ (d:Nat) (t:TypeId) (x y:Value),Okay P (Op.equalIn d t x y)
  | 0,_,_,_=>okay_uns trivial
  | d+1,t,x,y=>by
    have ih:=okay_equalIn d
    unfold Op.equalIn
    refine Okay.bind (Okay.of (plain_underlying _)) fun u => ?_
    split
    all_goals (repeat' (first | with_reducible (first | exact okay_pure _ | exact okay_stuck _) | ((with_reducible refine okay_uns ?_);exact trivial) | with_reducible (first | exact okay_program | exact okay_choose _ | exact ih _ _ _ | exact okay_sameAddr _ _ | exact okay_samePointer _ _ | exact okay_typeStr _ | exact Okay.of (plain_typeInfo _) | exact Okay.of (plain_sizeOf _) | exact Okay.of (plain_behind _) | exact Okay.of (plain_byteOf _) | exact Okay.of (plain_runtimePanic _) | exact okay_forA (fun _ _=>by (repeat' (with_reducible first | exact okay_pure _ | exact ih _ _ _ | exact Okay.of (plain_part _ _ _) | (refine Okay.bind ?_ (fun _ => ?_)) | (refine Okay.ite ?_ ?_)))) _ _ | exact okay_forR (fun _ _=>by (repeat' (with_reducible first | exact okay_pure _ | exact ih _ _ _ | exact Okay.of (plain_part _ _ _) | (refine Okay.bind ?_ (fun _ => ?_)) | (refine Okay.ite ?_ ?_)))) _ _ | (refine Okay.bind ?_ (fun _ => ?_)) | (refine Okay.ite ?_ ?_)) | split | (dsimp only)))
theorem okay_equal (t:TypeId) (x y:Value):Okay P (Op.equal t x y):=okay_equalIn _ t x y
theorem okay_guardIn:∀ (d:Nat) (t:TypeId) (x y:Value),Okay P (Op.eqGuardIn d t x y)
  | 0,_,_,_=>okay_uns trivial
  | d+1,t,x,y=>by
    have ih:=okay_guardIn d
    unfold Op.eqGuardIn
    refine Okay.bind (Okay.of (plain_underlying _)) fun u => ?_
    split
    all_goals (repeat' (first | with_reducible (first | exact okay_pure _ | exact Okay.of (plain_sizeOf _) | exact okay_forA (fun _ _=>by (repeat' (with_reducible first | exact okay_pure _ | exact ih _ _ _ | exact Okay.of (plain_part _ _ _) | (refine Okay.bind ?_ (fun _ => ?_)) | (refine Okay.ite ?_ ?_)))) _ _ | exact okay_forR (fun _ _=>by (repeat' (with_reducible first | exact okay_pure _ | exact ih _ _ _ | exact Okay.of (plain_part _ _ _) | (refine Okay.bind ?_ (fun _ => ?_)) | (refine Okay.ite ?_ ?_)))) _ _ | (refine Okay.bind ?_ (fun _ => ?_))) | split | (dsimp only)))
theorem okay_guard (op:BinOp) (t:TypeId) (x y:Operand) (a b:Value):Okay P (eqGuard op t x y a b):=by
  unfold eqGuard
  (repeat' (first | with_reducible exact okay_pure _ | ((with_reducible refine okay_uns ?_);exact trivial) | with_reducible (first | exact okay_program | exact okay_guardIn _ _ _ _ | (refine Okay.bind ?_ (fun _ => ?_)) | (refine Okay.ite ?_ ?_)) | split))
theorem okay_binOp (op:BinOp) (t:TypeId) (x y:Value):Okay P (binOp op t x y):=by
  unfold binOp
  split <;> (repeat' (first | with_reducible (first | exact okay_pure _ | exact okay_stuck _) | ((with_reducible refine okay_uns ?_);exact trivial) | with_reducible (first | exact okay_equal _ _ _ | exact Okay.of (plain_shift _ _ _ _ _) | exact Okay.of (plain_intArith _ _ _ _) | exact Okay.of (plain_intDiv _ _ _ _) | exact Okay.of (plain_intBits _ _ _ _) | exact Okay.of (plain_intCmp _ _ _) | exact Okay.of (plain_floatArith _ _ _ _) | exact Okay.of (plain_floatCmp _ _ _ _) | exact Okay.of (plain_stringOp _ _ _) | exact Okay.of (plain_complex _ _ _ _ _ _) | exact Okay.of (plain_addrSub _ _ _) | exact Okay.of (plain_addrCmp _ _ _) | exact Okay.of (plain_addrMod _ _ _) | exact Okay.of (plain_movedNumber _ _ _) | exact Okay.of (plain_movedPointer _ _ _) | exact Okay.of (plain_behind _) | exact Okay.of (plain_underlying _) | (refine Okay.bind ?_ (fun _ => ?_)) | (refine Okay.ite ?_ ?_)) | split))
theorem okay_typeAssert (x:Value) (a b:TypeId) (c:Bool):Okay P (Instr.typeAssert x a b c):=by
  unfold Instr.typeAssert
  (repeat' (first | with_reducible (first | exact okay_pure _ | exact okay_stuck _ | exact Okay.of (plain_underlying _) | exact Okay.of (plain_typeInfo _) | exact Okay.of (plain_zeroValue _) | exact Okay.of (plain_runtimePanic _) | (refine Okay.bind ?_ (fun _ => ?_)) | (refine Okay.ite ?_ ?_)) | split))
theorem okay_makeInterface (t:TypeId) (x:Value):Okay P (Instr.makeInterface t x):=by
  unfold Instr.makeInterface
  (repeat' (first | with_reducible (first | exact okay_pure _ | exact okay_stuck _ | exact Okay.of (plain_underlying _) | (refine Okay.bind ?_ (fun _ => ?_))) | split))
theorem okay_max2 (x y:Value):Okay P (Builtin.max2 x y):=by
  unfold Builtin.max2
  split <;> (repeat' (first | with_reducible (first | exact okay_pure _ | exact okay_stuck _) | ((with_reducible refine okay_uns ?_);exact trivial) | with_reducible (first | exact okay_choose _ | exact Okay.of (plain_stringOp _ _ _) | exact Okay.of (plain_asBool _) | (refine Okay.bind ?_ (fun _ => ?_))) | split))
theorem okay_foldMax:∀ (l:List Value) (x:Value),Okay P (l.foldlM Builtin.max2 x)
  | [],x=>by rw [List.foldlM_nil];exact okay_pure _
  | y :: l,x=>by
    rw [List.foldlM_cons]
    exact Okay.bind (okay_max2 x y) fun r=>okay_foldMax l r
theorem okay_max (ts:Array TypeId) (t:TypeId) (as:Array Value):Okay P (Builtin.max_ ts t as):=by
  unfold Builtin.max_
  split
  · exact okay_stuck _
  · exact okay_foldMax _ _
theorem okay_get (t:TypeId) (x:Place):Okay P (x.get t):=by
  unfold Place.get
  (repeat' (first | with_reducible (first | exact okay_pure _ | exact Okay.of (plain_loadVar _ _)) | split))
theorem okay_follow:∀ (path:List FieldStep) (t:TypeId) (x:Place),Okay P (follow path t x)
  | [],_,_=>okay_pure _
  | s :: rest,t,x=>by
    have ih:=okay_follow rest
    unfold follow
    (repeat' (first | with_reducible (first | exact okay_stuck _ | exact ih _ _ | exact okay_get _ _ | exact Okay.of (plain_underlying _) | exact Okay.of (plain_asAddr _) | exact Okay.of (plain_fieldPlace _ _) | exact Okay.of (plain_part _ _ _) | (refine Okay.bind ?_ (fun _ => ?_)) | (refine Okay.ite ?_ ?_)) | split))
theorem okay_wrapnil (ts:Array TypeId) (t:TypeId) (as:Array Value):Okay P (Builtin.ssaWrapNilChk_ ts t as):=by
  unfold Builtin.ssaWrapNilChk_
  rcases as with ⟨_ | ⟨a,_ | ⟨b,_ | ⟨c,_ | ⟨d,l⟩⟩⟩⟩⟩
  case cons.cons.cons.nil=>
    cases b <;> first | exact okay_stuck _ | skip
    cases c <;> first | exact okay_stuck _ | skip
    cases a <;> first | exact okay_stuck _ | skip
    rename_i p
    cases p with
    | some _=>exact okay_pure _
    | none=>
      refine Okay.bind (s:=choose (.extern "ssa:wrapnilchk.dereferenced" 2)) (okay_choose _) fun r => ?_
      (repeat' (first | with_reducible exact okay_stuck _ | ((with_reducible refine okay_uns ?_);exact trivial) | with_reducible (first | exact Okay.of (plain_underlying _) | exact Okay.of (plain_typeInfo _) | exact Okay.of (plain_runtimePanic _) | (refine Okay.bind ?_ (fun _ => ?_)) | (refine Okay.ite ?_ ?_)) | split | (dsimp only)))
  all_goals exact okay_stuck _
theorem okay_receiverAt (xt:TypeId) (x:Place) (p:Bool) (wr:Option String):Okay P (receiverAt xt x p wr):=by
  unfold receiverAt
  (repeat' (first | with_reducible (first | exact okay_pure _ | exact okay_stuck _ | exact okay_get _ _ | exact okay_wrapnil _ _ _ | exact Okay.of (plain_underlying _) | exact Okay.of (plain_loadVar _ _) | exact Okay.of (plain_asAddr _) | (refine Okay.bind ?_ (fun _ => ?_))) | split))
theorem okay_method:∀ (n:Nat) (t:TypeId) (v:Value) (name:String),Okay P (method n t v name)
  | 0,_,_,_=>okay_uns trivial
  | n+1,t,v,name=>by
    have ih:=okay_method n
    unfold method
    (repeat' (first | with_reducible (first | exact okay_pure _ | exact okay_stuck _ | exact ih _ _ _ | exact okay_follow _ _ _ | exact okay_get _ _ | exact okay_receiverAt _ _ _ _ | exact Okay.of (plain_typeInfo _) | exact Okay.of (plain_runtimePanic _) | (refine Okay.bind ?_ (fun _ => ?_))) | split))
end
end Go.Lf

import Derived.Test.YtnbflnamlpodcaaGreatDoorLfB
namespace Go.Lf
def uC(P:Program){α:Type}:Sem α->Prop
 | .pure _=>True
 | .load m _ k=>m=.plain/\∀v,uC P (k v)
 | .store m _ _ k=>m=.plain/\uC P k
 | .new o k=>uT o/\∀r,uC P (k r)
 | .shape _ k=>∀s,uC P (k s)
 | .freeze _ _ _=>False
 | .frozen _ k=>∀b,uC P (k b)
 | .getObj _ k=>(∀o o',J9 o o'->k o=k o')/\∀o,uC P (k o)
 | .setObj _ _ _=>False
 | .choose _ k=>∀n,uC P (k n)
 | .sys _ _=>False
 | .program k=>uC P (k P)
 | .mark m k=>ZR m/\uC P k
 | .halt h=>Dq h
section
variable {P:Program}{α β:Type}
theorem uC.bind:∀(s:Sem α)(f:α->Sem β),uC P s->(∀a,uC P (f a))->uC P (s.bind f)
 | .pure a,_,_,h=>h a
 | .load _ _ k,f,h,h'=>⟨h.1,λv=>uC.bind (k v) f (h.2 v) h'⟩
 | .store _ _ _ k,f,h,h'=>⟨h.1,uC.bind k f h.2 h'⟩
 | .new _ k,f,h,h'=>⟨h.1,λv=>uC.bind (k v) f (h.2 v) h'⟩
 | .shape _ k,f,h,h'=>λv=>uC.bind (k v) f (h v) h'
 | .freeze _ _ _,_,h,_=>h.elim
 | .frozen _ k,f,h,h'=>λv=>uC.bind (k v) f (h v) h'
 | .getObj _ k,f,h,h'=>⟨λo o' g=>aP (λs=>Sem.bind s f) (h.1 o o' g),λv=>uC.bind (k v) f (h.2 v) h'⟩
 | .setObj _ _ _,_,h,_=>h.elim
 | .choose _ k,f,h,h'=>λv=>uC.bind (k v) f (h v) h'
 | .sys _ _,_,h,_=>h.elim
 | .program k,f,h,h'=>uC.bind (k P) f h h'
 | .mark _ k,f,h,h'=>⟨h.1,uC.bind k f h.2 h'⟩
 | .halt _,_,h,_=>h
theorem uC.RN:∀(s:Sem α)(f:α->Sem β),uC P s->(∀a,qJ P (f a))->(∀a,Plain P (f a))->Plain P (s.bind f)
 | .pure a,_,_,_,h=>h a
 | .load _ _ k,f,h,hd,h'=>⟨h.1,λv=>uC.RN (k v) f (h.2 v) hd h'⟩
 | .store _ _ _ k,f,h,hd,h'=>⟨h.1,uC.RN k f h.2 hd h'⟩
 | .new _ k,f,h,hd,h'=>⟨h.1,λv=>uC.RN (k v) f (h.2 v) hd h'⟩
 | .shape _ k,f,h,hd,h'=>⟨λ_ _=>.inl (qJ.late _ f hd),λv=>uC.RN (k v) f (h v) hd h'⟩
 | .freeze _ _ _,_,h,_,_=>h.elim
 | .frozen _ k,f,h,hd,h'=>λv=>uC.RN (k v) f (h v) hd h'
 | .getObj _ k,f,h,hd,h'=>⟨λo o' g=>.inl (aP (λs=>Sem.bind s f) (h.1 o o' g)),λv=>uC.RN (k v) f (h.2 v) hd h'⟩
 | .setObj _ _ _,_,h,_,_=>h.elim
 | .choose _ k,f,h,hd,h'=>λv=>uC.RN (k v) f (h v) hd h'
 | .sys _ _,_,h,_,_=>h.elim
 | .program k,f,h,hd,h'=>uC.RN (k P) f h hd h'
 | .mark _ k,f,h,hd,h'=>⟨h.1,uC.RN k f h.2 hd h'⟩
 | .halt _,_,h,_,_=>h
theorem T_(a:α):uC P (pure a:Sem α):=trivial
theorem Ua{s:Sem α}{f:α->Sem β}(h:uC P s)(h':∀a,uC P (f a)):uC P (s>>=f):=uC.bind s f h h'
theorem Z8(r:Nat):uC P (shape r):=λ_=>trivial
theorem XR(a:Addr):uC P (frozen a):=λ_=>trivial
theorem Ji(u:Unsupported):qJ P (unsupported u:Sem α):=trivial
theorem XT{s:Sem α}{f:α->Sem β}(h:∀a,qJ P (f a)):qJ P (s>>=f):=qJ.late s f h
theorem Z9{s:Sem α}{f:α->Sem β}(h:uC P s)(hd:∀a,qJ P (f a))(h':∀a,Plain P (f a)):Plain P (s>>=f):=uC.RN s f h hd h'
theorem Z_:Plain P (mark .noRoom):=⟨.inl rfl,trivial⟩
theorem Ac{t:TypeId}{d:TypeDesc}(h:P.underlying t=some d){f:TypeDesc->Sem β}(hf:Plain P (f d)):Plain P (underlying t>>=f):=by show Plain P ((match P.underlying t with|some d=>pure d|none=>stuck "no such type" :Sem TypeDesc).bind f);rw[h];exact hf
end
attribute [local irreducible] Plain uC
section
variable {P:Program}{α β:Type}
theorem aab(a:Addr)(n:Nat):uC P (Builtin.holdsCells a n):=by unfold Builtin.holdsCells;exact Ua (Z8 _) λs=>by split<;>exact T_ _
theorem RP(a b c:Nat)(o:Option Addr)(x:Value):uC P (Builtin.mayShare a b c o x):=by
 unfold Builtin.mayShare;dsimp only
 repeat'(first|with_reducible exact T_ _|with_reducible exact aab _ _|with_reducible exact XR _|with_reducible refine Ua ?_ (λ_=>?_)|split|dsimp only)
theorem Vs(ts:Array TypeId)(t:TypeId)(anE:Array Value):Plain P (Builtin.append_ ts t anE):=by
 have alF:∀{γ:Type}(sz sLen n:Nat)(base:Option Addr)(x:Value),Plain P (Builtin.mayShare sz sLen n base x>>=λb=>if(!b)=true then(mark .noRoom>>=λ_=>(unsupported (.resourceLimit "append: a slice or a string whose bytes no memory bears"):Sem γ))else unsupported (.resourceLimit "append: a slice or a string whose bytes no memory bears")):=λsz sLen n base x=>by
  refine Z9 (RP _ _ _ _ _) (λa=>?_) (λa=>?_)
  .split
   .exact XT λ_=>Ji _
   .exact Ji _
  ·(repeat'(first|((with_reducible refine qY ?_);exact trivial)|with_reducible(first|exact Z_|(refine qh ?_ (λ_=>?_))|(refine qF ?_ ?_))))
 unfold Builtin.append_
 (repeat'(first|with_reducible(first|exact qg _|exact qj _|exact uf _|exact Jd _|exact qp _|exact rO _|exact GL _|exact qX _|exact qO _|exact NQ _|exact DZ _ _ _|exact uF _|exact xw _ _ _|exact y8 _ _|exact alF _ _ _ _ _|(refine qh ?_ (λ_=>?_))|(refine qF ?_ ?_))|split))
theorem XU(op:BinOp)(k:IntKind)(x:Int)(yk:IntKind)(y:Int):Plain P (Op.shift op k x yk y):=by unfold Op.shift;(repeat'(first|with_reducible(first|exact qg _|exact qj _|exact qO _|(refine qF ?_ ?_))|split))
theorem Qu(op:BinOp)(k:IntKind)(x y:Int):Plain P (Op.intArith op k x y):=by unfold Op.intArith;(repeat'(first|with_reducible(first|exact qg _|exact qj _)|split))
theorem Vu(op:BinOp)(k:IntKind)(x y:Int):Plain P (Op.intDiv op k x y):=by unfold Op.intDiv;(repeat'(first|with_reducible(first|exact qg _|exact qj _|exact qO _|(refine qF ?_ ?_))|split))
theorem RQ(op:BinOp)(k:IntKind)(x y:Int):Plain P (Op.intBits op k x y):=by unfold Op.intBits;(repeat'(first|with_reducible(first|exact qg _|exact qj _)|split))
theorem Vw(op:BinOp)(x y:Int):Plain P (Op.intCmp op x y):=by unfold Op.intCmp;(repeat'(first|with_reducible(first|exact qg _|exact qj _)|split))
theorem D6(op:BinOp)(k:FloatKind)(x y:Nat):Plain P (Op.floatArith op k x y):=by unfold Op.floatArith;(repeat'(first|with_reducible(first|exact qg _|exact qj _|exact uf _|(refine qh ?_ (λ_=>?_)))|split|(dsimp only)))
theorem GU(op:BinOp)(k:FloatKind)(x y:Nat):Plain P (Op.floatCmp op k x y):=by unfold Op.floatCmp;(repeat'(first|with_reducible(first|exact qg _|exact qj _)|split))
theorem BO(op:BinOp)(x y:ByteArray):Plain P (Op.stringOp op x y):=by unfold Op.stringOp;(repeat'(first|with_reducible(first|exact qg _|exact qj _)|((with_reducible refine qY ?_);exact trivial)|with_reducible(refine qF ?_ ?_)|split))
theorem acJ(a:FloatKind)(b:Nat)(c:FloatKind):Plain P (Conv.floatToFloat a b c):=by unfold Conv.floatToFloat;(repeat'(first|with_reducible(first|exact qg _|exact uf _|(refine qh ?_ (λ_=>?_))|(refine qF ?_ ?_))|split))
theorem Bf(op:BinOp)(k:FloatKind)(x y:Nat):Plain P (Op.Complex.arith op k x y):=by unfold Op.Complex.arith;(repeat'(first|with_reducible(first|exact qg _|exact qj _|exact D6 _ _ _ _|(refine qh ?_ (λ_=>?_)))|split))
theorem Qv(op:BinOp)(k:FloatKind)(x y:Nat):Plain P (Op.Complex.cmp op k x y):=by unfold Op.Complex.cmp;(repeat'(with_reducible first|exact GU _ _ _ _|exact Ba _|(refine qh ?_ (λ_=>?_))))
theorem XV(a:FloatKind)(b:Nat)(c:FloatKind):Plain P (Op.Complex.conv a b c):=by unfold Op.Complex.conv;(repeat'(first|with_reducible(first|exact qg _|exact qj _|exact acJ _ _ _|(refine qh ?_ (λ_=>?_))|(refine qF ?_ ?_))|split))
theorem XW(a b c d:Nat):Plain P (Op.Complex.product a b c d):=by unfold Op.Complex.product Op.Complex.add Op.Complex.sub Op.Complex.mul;(repeat'(with_reducible first|exact qg _|exact Bf _ _ _ _|(refine qh ?_ (λ_=>?_))))
theorem XX(s a b c d:Nat):Plain P (Op.Complex.corrected s a b c d):=by unfold Op.Complex.corrected Op.Complex.add Op.Complex.sub Op.Complex.mul;(repeat'(with_reducible first|exact qg _|exact Bf _ _ _ _|(refine qh ?_ (λ_=>?_))))
theorem XY(a b c d:Nat):Plain P (Op.Complex.quotient a b c d):=by unfold Op.Complex.quotient Op.Complex.add Op.Complex.sub Op.Complex.mul Op.Complex.quo;(repeat'(with_reducible first|exact qg _|exact Bf _ _ _ _|exact Qv _ _ _ _|exact XX _ _ _ _ _|(refine qh ?_ (λ_=>?_))|(refine qF ?_ ?_)))
theorem RS(op:BinOp)(k:FloatKind)(a b c d:Nat):Plain P (Op.complexOp op k a b c d):=by unfold Op.complexOp;(repeat'(first|with_reducible(first|exact qg _|exact qj _|exact Bf _ _ _ _|exact Qv _ _ _ _|exact XV _ _ _|exact XW _ _ _ _|exact XY _ _ _ _|(refine qh ?_ (λ_=>?_))|(refine qF ?_ ?_))|split))
theorem XZ(p:Program)(d:Nat)(e:TypeId)(off:Nat)(b:Int):cellAtBytes p d e 0 off b=none:=by
 unfold cellAtBytes;dsimp only;split
 .rfl
 .cases byteOfCell p d e (off%p.cellsOf e)with
  |none=>rfl
  |some here=>
   simp only[fF,ng,eQ];rw[aj]
   .rfl
   .rw[kJ,decide_eq_true_iff,decide_eq_true_iff];have:∀z:Int,z<0\/z≥Int.ofNat 0:=λz=>by have:Int.ofNat 0=0:=rfl;omega
    exact this _
theorem E_(t:TypeId)(x y:Value):Plain P (Builtin.unsafeAdd_ #[] t #[x,y]):=by
 have hd:∀(a:Addr)(n:Int)(e:TypeId),qJ P (program>>=λp=>match cellAtBytes p p.depth e (0/p.cellsOf e) a.off n with
    |some off=>(pure (.pointer (some {a with off})):Sem Value)
    |none=>unsupported (.unsafePointer "Add")):=λa n e=>by
  show qJ P (match cellAtBytes P P.depth e (0/P.cellsOf e) a.off n with
    |some off=>(pure (.pointer (some {a with off})):Sem Value)
    |none=>unsupported (.unsafePointer "Add"))
  rw[Nat.zero_div,XZ];exact Ji _
 unfold Builtin.unsafeAdd_;cases x with
 |pointer ptr=>
  dsimp only;refine qh (GL _) λn=>?_
  cases ptr with
  |none=>(repeat'(first|((with_reducible refine qY ?_);exact trivial)|with_reducible(first|(refine qh ?_ (λ_=>?_))|(refine qF ?_ ?_))))
  |some a=>
   have key:Plain P (shape a.block>>=λs=>match s with
     |some (e,cells)=>(program>>=λp=>match cellAtBytes p p.depth e (cells/p.cellsOf e) a.off n with
      |some off=>(pure (.pointer (some {a with off})):Sem Value)
      |none=>unsupported (.unsafePointer "Add"))
     |_=>unsupported (.unsafePointer "Add")):=by
    refine GM (λt m=>.inl (hd a n t)) λs=>by(repeat'(first|with_reducible exact qg _|((with_reducible refine qY ?_);exact trivial)|with_reducible(first|exact qZ|(refine qh ?_ (λ_=>?_)))|split))
   refine qF ?_ ?_
   .exact Qo (λ_=>trivial) (λ_=>qh (qY trivial) λ_=>qg _) (qg _)
   .refine qF ?_ ?_
    .exact qh (qY trivial) λ_=>key
    .exact key
 |_=>exact qj _
theorem Fa(a b:Addr):Plain P (Op.twoPlaces a b):=by unfold Op.twoPlaces;(repeat'(first|with_reducible exact qg _|((with_reducible refine qY ?_);exact trivial)|with_reducible(first|exact qZ|exact Be _|(refine qh ?_ (λ_=>?_))|(refine qF ?_ ?_))))
theorem RU(k:IntKind)(a b:Addr):Plain P (Op.addrSub k a b):=by unfold Op.addrSub;(repeat'(with_reducible first|exact qg _|exact Fa _ _|(refine qh ?_ (λ_=>?_))))
theorem RV(op:BinOp)(a b:Addr):Plain P (Op.addrCmp op a b):=by unfold Op.addrCmp;(repeat'(first|with_reducible exact qg _|((with_reducible refine qY ?_);exact trivial)|with_reducible(first|exact Fa _ _|(refine qh ?_ (λ_=>?_)))|split))
theorem RX(k:IntKind)(a:Addr)(n:Int):Plain P (Op.addrMod k a n):=by unfold Op.addrMod;exact GM (λ_ _=>.inr rfl) λs=>by(repeat'(first|with_reducible exact qg _|((with_reducible refine qY ?_);exact trivial)|with_reducible(first|exact qX _|exact Be _|(refine qh ?_ (λ_=>?_))|(refine qF ?_ ?_))|split))
theorem Qw(a:Addr)(l:Bool):Plain P (asNumber a l):=by unfold asNumber;exact qh (Hz (o:=.number a l) trivial) λ_=>qg _
theorem Kr(t:TypeId)(x y:Value):Plain P (movedNumber t x y):=by unfold movedNumber;(repeat'(first|with_reducible exact qg _|((with_reducible refine qY ?_);exact trivial)|with_reducible(first|exact qp _|exact E_ _ _ _|exact EH _|exact Qw _ _|(refine qh ?_ (λ_=>?_))|(refine qF ?_ ?_))|split))
theorem Jj(t:TypeId)(x y:Value):Plain P (movedPointer t x y):=by unfold movedPointer;(repeat'(first|((with_reducible refine qY ?_);exact trivial)|with_reducible(first|exact GK _|exact E_ _ _ _|(refine qh ?_ (λ_=>?_))|(refine qF ?_ ?_))|split))
end
end Go.Lf
namespace Go.Lf
structure qy(P:Program){α:Type}(s:Sem α):Prop where
 QX:∀{X:Nat->Prop}{Y:Nat->Option Obj}(w v:World)(es:Array Event)(x:α)(v':World)(es':Array Event),vY X Y w v->s.runT P v es=(.ok x v',es')->
  ∃w',s.runT P w es=(.ok x w',es')/\vY X Y w' v'/\v.heap.size<=v'.heap.size/\∀e∈es',e∈es\/EvP X w' e
 tape:∀(v:World)(es:Array Event)(x:α)(v':World)(es':Array Event),(∀(b:Nat)(o:Obj),v.heap[b]?=some o->uT o)->s.runT P v es=(.ok x v',es')->
  v'.tape=v.tape/\v.drawn<=v'.drawn/\∀τ:Nat->Question->Nat,(∀p,v.drawn<=p->p<v'.drawn->τ p=v.tape p)->s.runT P {v with tape:=τ} es=(.ok x {v' with tape:=τ},es')
 halts:∀{X:Nat->Prop}{Y:Nat->Option Obj}(w v:World)(es:Array Event)(x:Halt)(v':World)(es':Array Event),vY X Y w v->s.runT P v es=(.halt x v',es')->Dq x
section
variable {P:Program}{α β:Type}
theorem qy.of{s:Sem α}(h:Plain P s):qy P s:=⟨λw v es x v' es'=>uA s w v es x v' es' h,λv es x v' es'=>uJ s v es x v' es' h,λw v es x v' es'=>sZ s w v es x v' es' h⟩
theorem qy.bind{s:Sem α}{f:α->Sem β}(h:qy P s)(h':∀a,qy P (f a)):qy P (s>>=f):=by
 have e:∀w es,(s>>=f).runT P w es=match s.runT P w es with
   |(.ok a w',es')=>(f a).runT P w' es'
   |(.halt x w',es')=>(.halt x w',es'):=λw es=>Go.Sem.runT_bind' P s f w es
 refine⟨λw v es x v' es' hs hr=>?_,λv es x v' es' hn hr=>?_,λw v es x v' es' hs hr=>?_⟩
 .rw[e]at hr;cases hr1:s.runT P v es with
  |mk r es1=>
   rw[hr1]at hr;cases r with
   |halt y v1=>cases hr
   |ok a v1=>
    obtain⟨w1,h1,h2,h3,h4⟩:=h.QX w v es a v1 es1 hs hr1;obtain⟨w2,g1,g2,g3,g4⟩:=(h' a).QX w1 v1 es1 x v' es' h2 hr;refine⟨w2,by rw[e,h1];exact g1,g2,ae,λev hev=>?_⟩;rcases g4 ev hev with g5|g5
    .rcases h4 ev g5 with g6|g6
     .exact .inl g6
     .exact .inr (g6.grow apy)
    .exact .inr g5
 .rw[e]at hr;cases hr1:s.runT P v es with
  |mk r es1=>
   rw[hr1]at hr;cases r with
   |halt y v1=>cases hr
   |ok a v1=>
    obtain⟨h1,h2,h3⟩:=h.tape v es a v1 es1 hn hr1;obtain⟨w1,_,hs1,_,_⟩:=h.QX v v es a v1 es1 (vY.self hn) hr1;obtain⟨g1,g2,g3⟩:=(h' a).tape v1 es1 x v' es' hs1.nv hr;exact arF
 .rw[e]at hr;cases hr1:s.runT P v es with
  |mk r es1=>
   rw[hr1]at hr;cases r with
   |halt y v1=>
    cases hr;exact h.halts w v es x v' es' hs hr1
   |ok a v1=>
    obtain⟨w1,_,h2,_,_⟩:=h.QX w v es a v1 es1 hs hr1;exact(h' a).halts w1 v1 es1 x v' es' h2 hr
theorem MC{k:Program->Sem α}(h:qy P (k P)):qy P (program>>=k):=⟨λw v es x v' es' hs hr=>h.QX w v es x v' es' hs hr,λv es x v' es' hn hr=>h.tape v es x v' es' hn hr,λw v es x v' es' hs hr=>h.halts w v es x v' es' hs hr⟩
theorem qy.ite{c:Prop}[Decidable c]{a b:Sem α}(h:qy P a)(h':qy P b):qy P (if c then a else b):=by split<;>assumption
def YG(u:World)(a:Addr):Bool:=u.frozen? a||match u.shape? a.block with
 |some (_,n)=>u.frozen? {block:=a.block,off:=n}
 |none=>false
def emW(u:World)(a:Addr):Bool:=(u.shape? a.block) matches some (_,0)
def mbW(u:World)(a b:Addr):Bool:=(YG u a&&YG u b)||(YG u a&&emW u a)||(YG u b&&emW u b)
theorem run_frozen(a:Addr)(u:World)(es:Array Event):(frozen a).runT P u es=(.ok (u.frozen? a) u,es):=rfl
theorem run_shape(r:Nat)(u:World)(es:Array Event):(shape r).runT P u es=(.ok (u.shape? r) u,es):=rfl
theorem IG(a:Addr)(u:World)(es:Array Event):(stringish a).runT P u es=(.ok (YG u a) u,es):=by
 unfold stringish YG;show(Sem.bind (frozen a) _).runT P u es=_;rw[Go.Sem.runT_bind',run_frozen];cases hf:u.frozen? a with
 |true=>rfl
 |false=>
  simp only[bF,aU,jH];show(Sem.bind (shape a.block) _).runT P u es=_;rw[Go.Sem.runT_bind',run_shape];cases u.shape? a.block with
  |none=>rfl
  |some x=>rfl
theorem y_(a b:Addr)(u:World)(es:Array Event):(mayBeOne a b).runT P u es=(.ok (mbW u a b) u,es):=by unfold mayBeOne;show(Sem.bind (stringish a) _).runT P u es=_;rw[Go.Sem.runT_bind',IG];show(Sem.bind (stringish b) _).runT P u es=_;rw[Go.Sem.runT_bind',IG];rfl
theorem abk{X:Nat->Prop}{Y:Nat->Option Obj}{w v:World}(h:vY X Y w v)(a:Addr):YG w a=YG v a/\(YG v a=true->emW w a=emW v a):=by
 have sh:¬X a.block->w.shape? a.block=v.shape? a.block:=λhx=>by
  cases hy:Y a.block with
  |some o=>
   obtain⟨o',h1,h2,hg⟩:=h.gho _ _ hy;simp only[World.shape?,h1,h2];rcases hg with⟨b,t,rfl,rfl⟩|⟨c,t,rfl,rfl⟩<;>rfl
  |none=>simp only[World.shape?,h.same a.block hx hy]
 by_cases hx:X a.block
 .have no:∀n,v.frozen? {block:=a.block,off:=n}=false:=λn=>by
   obtain⟨cs,t,fr,h1,h2⟩:=h.doc _ hx;obtain rfl:=h.unf _ _ _ _ hx h2;simp[World.frozen?,h2]
  have nv:YG v a=false:=by
   unfold YG
   have h1:v.frozen? a=false:=by have:=no a.off;simpa[World.frozen?]using this
   rw[h1,jH];split
   .exact no _
   .rfl
  have nw:YG w a=false:=by
   unfold YG
   have h1:w.frozen? a=false:=by rw[h.frozen];have:=no a.off;simpa[World.frozen?]using this
   rw[h1,jH];split
   .rw[h.frozen];exact no _
   .rfl
  exact⟨nw.trans nv.symm,λhh=>by rw[nv]at hh;cases hh⟩
 .refine⟨?_,λ_=>by unfold emW;rw[sh hx]⟩;unfold YG;rw[sh hx,h.frozen];split
  .rw[h.frozen]
  .rfl
theorem RY(a b:Addr):qy P (mayBeOne a b):=by
 refine⟨λw v es x v' es' hs hr=>?_,λv es x v' es' hn hr=>?_,λw v es x v' es' hs hr=>?_⟩
 .rw[y_]at hr;cases hr;refine⟨w,?_,hs,ak _,λe he=>.inl he⟩;rw[y_];have ha:=abk hs a;have hb:=abk hs b
  have:mbW w a b=mbW v a b:=by
   unfold mbW;rw[ha.1,hb.1];cases h1:YG v a<;>cases h2:YG v b<;>simp only[Bool.false_and,Bool.true_and,jH,anZ]
   .exact hb.2 h2
   .rw[ha.2 h1]
  rw[this]
 .rw[y_]at hr;cases hr;exact⟨rfl,ak _,λτ _=>by rw[y_];rfl⟩
 .rw[y_]at hr;cases hr
end
attribute [local irreducible] Plain
section
variable {P:Program}{α β:Type}
theorem qU(a:α):qy P (pure a:Sem α):=qy.of (qg a)
theorem sG(s:String):qy P (stuck s:Sem α):=qy.of (qj s)
theorem uO{u:Unsupported}(h:Dq (.unsupported u)):qy P (unsupported u:Sem α):=qy.of (qY h)
theorem Kt:qy P program:=qy.of qZ
theorem Ad(q:Question):qy P (choose q):=qy.of (uf q)
theorem Jk{γ σ:Type}{f:γ->σ->Sem (ForInStep σ)}(h:∀a s,qy P (f a s)):∀(l:List γ)(s:σ),qy P (forIn l s f)
 |[],s=>by rw[List.forIn_nil];exact qU _
 |a::l,s=>by
  rw[List.forIn_cons];refine qy.bind (h a s) λr=>?_
  cases r with
  |done b=>exact qU _
  |yield b=>exact Jk h l b
theorem Ub{γ σ:Type}{f:γ->σ->Sem (ForInStep σ)}(h:∀a s,qy P (f a s))(l:Array γ)(s:σ):qy P (forIn l s f):=by rw[<-Array.forIn_toList];exact Jk h _ _
theorem Uc{σ:Type}{f:Nat->σ->Sem (ForInStep σ)}(h:∀a s,qy P (f a s))(n:Nat)(s:σ):qy P (forIn [0:n] s f):=by rw[Std.Legacy.Range.forIn_eq_forIn_range'];exact Jk h _ _
theorem IJ(a b:Addr):qy P (sameAddr a b):=by
 unfold sameAddr
 (repeat'(first|with_reducible exact qU _|((with_reducible refine uO ?_);exact trivial)|with_reducible(first|exact Ad _|exact RY _ _|exact qy.of (J7 _)|exact qy.of (Ko _)|(refine qy.bind ?_ (λ_=>?_))|(refine qy.ite ?_ ?_))))
theorem MF(a b:Option Addr):qy P (samePointer a b):=by
 unfold samePointer
 (repeat'(first|with_reducible(first|exact qU _|exact IJ _ _)|split))
theorem Vx(t:TypeId):qy P (typeStr t):=by
 unfold typeStr
 (repeat'(first|with_reducible exact qU _|((with_reducible refine uO ?_);exact trivial)|with_reducible(first|exact qy.of (qX _)|(refine qy.bind ?_ (λ_=>?_))|(refine qy.ite ?_ ?_))))
theorem Ku:∀(d:Nat)(t:TypeId)(x y:Value),qy P (Op.equalIn d t x y)
 |0,_,_,_=>uO trivial
 |d+1,t,x,y=>by
  have ih:=Ku d;unfold Op.equalIn;refine qy.bind (qy.of (qp _)) λu=>?_
  split
  all_goals(repeat'(first|with_reducible(first|exact qU _|exact sG _)|((with_reducible refine uO ?_);exact trivial)|with_reducible(first|exact Kt|exact Ad _|exact ih _ _ _|exact IJ _ _|exact MF _ _|exact Vx _|exact qy.of (qX _)|exact qy.of (rO _)|exact qy.of (EH _)|exact qy.of (Be _)|exact qy.of (qO _)|exact Ub (λ_ _=>by(repeat'(with_reducible first|exact qU _|exact ih _ _ _|exact qy.of (wX _ _ _)|(refine qy.bind ?_ (λ_=>?_))|(refine qy.ite ?_ ?_)))) _ _|exact Uc (λ_ _=>by(repeat'(with_reducible first|exact qU _|exact ih _ _ _|exact qy.of (wX _ _ _)|(refine qy.bind ?_ (λ_=>?_))|(refine qy.ite ?_ ?_)))) _ _|(refine qy.bind ?_ (λ_=>?_))|(refine qy.ite ?_ ?_))|split|(dsimp only)))
theorem aac(t:TypeId)(x y:Value):qy P (Op.equal t x y):=Ku _ t x y
theorem Kv:∀(d:Nat)(t:TypeId)(x y:Value),qy P (Op.eqGuardIn d t x y)
 |0,_,_,_=>uO trivial
 |d+1,t,x,y=>by
  have ih:=Kv d;unfold Op.eqGuardIn;refine qy.bind (qy.of (qp _)) λu=>?_
  split
  all_goals(repeat'(first|with_reducible(first|exact qU _|exact qy.of (rO _)|exact Ub (λ_ _=>by(repeat'(with_reducible first|exact qU _|exact ih _ _ _|exact qy.of (wX _ _ _)|(refine qy.bind ?_ (λ_=>?_))|(refine qy.ite ?_ ?_)))) _ _|exact Uc (λ_ _=>by(repeat'(with_reducible first|exact qU _|exact ih _ _ _|exact qy.of (wX _ _ _)|(refine qy.bind ?_ (λ_=>?_))|(refine qy.ite ?_ ?_)))) _ _|(refine qy.bind ?_ (λ_=>?_)))|split|(dsimp only)))
theorem Z4(op:BinOp)(t:TypeId)(x y:Operand)(a b:Value):qy P (eqGuard op t x y a b):=by
 unfold eqGuard
 (repeat'(first|with_reducible exact qU _|((with_reducible refine uO ?_);exact trivial)|with_reducible(first|exact Kt|exact Kv _ _ _ _|(refine qy.bind ?_ (λ_=>?_))|(refine qy.ite ?_ ?_))|split))
theorem Z5(op:BinOp)(t:TypeId)(x y:Value):qy P (binOp op t x y):=by unfold binOp;split<;>(repeat'(first|with_reducible(first|exact qU _|exact sG _)|((with_reducible refine uO ?_);exact trivial)|with_reducible(first|exact aac _ _ _|exact qy.of (XU _ _ _ _ _)|exact qy.of (Qu _ _ _ _)|exact qy.of (Vu _ _ _ _)|exact qy.of (RQ _ _ _ _)|exact qy.of (Vw _ _ _)|exact qy.of (D6 _ _ _ _)|exact qy.of (GU _ _ _ _)|exact qy.of (BO _ _ _)|exact qy.of (RS _ _ _ _ _ _)|exact qy.of (RU _ _ _)|exact qy.of (RV _ _ _)|exact qy.of (RX _ _ _)|exact qy.of (Kr _ _ _)|exact qy.of (Jj _ _ _)|exact qy.of (EH _)|exact qy.of (qp _)|(refine qy.bind ?_ (λ_=>?_))|(refine qy.ite ?_ ?_))|split))
theorem Ou(x:Value)(a b:TypeId)(c:Bool):qy P (Instr.typeAssert x a b c):=by
 unfold Instr.typeAssert
 (repeat'(first|with_reducible(first|exact qU _|exact sG _|exact qy.of (qp _)|exact qy.of (qX _)|exact qy.of (uF _)|exact qy.of (qO _)|(refine qy.bind ?_ (λ_=>?_))|(refine qy.ite ?_ ?_))|split))
theorem Jh(t:TypeId)(x:Value):qy P (Instr.makeInterface t x):=by
 unfold Instr.makeInterface
 (repeat'(first|with_reducible(first|exact qU _|exact sG _|exact qy.of (qp _)|(refine qy.bind ?_ (λ_=>?_)))|split))
theorem acK(x y:Value):qy P (Builtin.max2 x y):=by unfold Builtin.max2;split<;>(repeat'(first|with_reducible(first|exact qU _|exact sG _)|((with_reducible refine uO ?_);exact trivial)|with_reducible(first|exact Ad _|exact qy.of (BO _ _ _)|exact qy.of (Ba _)|(refine qy.bind ?_ (λ_=>?_)))|split))
theorem Kw:∀(l:List Value)(x:Value),qy P (l.foldlM Builtin.max2 x)
 |[],x=>by rw[List.foldlM_nil];exact qU _
 |y::l,x=>by rw[List.foldlM_cons];exact qy.bind (acK x y) λr=>Kw l r
theorem afL(ts:Array TypeId)(t:TypeId)(anE:Array Value):qy P (Builtin.max_ ts t anE):=by
 unfold Builtin.max_;split
 .exact sG _
 .exact Kw _ _
theorem Qx(t:TypeId)(x:Place):qy P (x.get t):=by
 unfold Place.get
 (repeat'(first|with_reducible(first|exact qU _|exact qy.of (uS _ _))|split))
theorem NV:∀(path:List FieldStep)(t:TypeId)(x:Place),qy P (follow path t x)
 |[],_,_=>qU _
 |s::rest,t,x=>by
  have ih:=NV rest;unfold follow
  (repeat'(first|with_reducible(first|exact sG _|exact ih _ _|exact Qx _ _|exact qy.of (qp _)|exact qy.of (Bc _)|exact qy.of (DY _ _)|exact qy.of (wX _ _ _)|(refine qy.bind ?_ (λ_=>?_))|(refine qy.ite ?_ ?_))|split))
theorem Vy(ts:Array TypeId)(t:TypeId)(anE:Array Value):qy P (Builtin.ssaWrapNilChk_ ts t anE):=by
 unfold Builtin.ssaWrapNilChk_;rcases anE with⟨_|⟨a,_|⟨b,_|⟨c,_|⟨d,l⟩⟩⟩⟩⟩
 case cons.cons.cons.nil=>
  cases b<;>first|exact sG _|skip
  cases c<;>first|exact sG _|skip
  cases a<;>first|exact sG _|skip
  rename_i p;cases p with
  |some _=>exact qU _
  |none=>
   refine qy.bind (s:=choose (.extern "ssa:wrapnilchk.dereferenced" 2)) (Ad _) λr=>?_
   (repeat'(first|with_reducible exact sG _|((with_reducible refine uO ?_);exact trivial)|with_reducible(first|exact qy.of (qp _)|exact qy.of (qX _)|exact qy.of (qO _)|(refine qy.bind ?_ (λ_=>?_))|(refine qy.ite ?_ ?_))|split|(dsimp only)))
 all_goals exact sG _
theorem Ov(xt:TypeId)(x:Place)(p:Bool)(wr:Option String):qy P (receiverAt xt x p wr):=by
 unfold receiverAt
 (repeat'(first|with_reducible(first|exact qU _|exact sG _|exact Qx _ _|exact Vy _ _ _|exact qy.of (qp _)|exact qy.of (uS _ _)|exact qy.of (Bc _)|(refine qy.bind ?_ (λ_=>?_)))|split))
theorem NU:∀(n:Nat)(t:TypeId)(v:Value)(name:String),qy P (method n t v name)
 |0,_,_,_=>uO trivial
 |n+1,t,v,name=>by
  have ih:=NU n;unfold method
  (repeat'(first|with_reducible(first|exact qU _|exact sG _|exact ih _ _ _|exact NV _ _ _|exact Qx _ _|exact Ov _ _ _ _|exact qy.of (qX _)|exact qy.of (qO _)|(refine qy.bind ?_ (λ_=>?_)))|split))

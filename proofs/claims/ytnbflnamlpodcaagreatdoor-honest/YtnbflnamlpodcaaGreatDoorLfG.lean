import Derived.Test.YtnbflnamlpodcaaGreatDoorLfB
namespace Go.Lf
def v_(P:aN){α:Type}:Sem α->Prop
 | .pure _=>True
 | .load m _ k=>m=.plain/\∀v,v_ P (k v)
 | .store m _ _ k=>m=.plain/\v_ P k
 | .new o k=>wX o/\∀r,v_ P (k r)
 | .shape _ k=>∀s,v_ P (k s)
 | .freeze _ _ _=>False
 | .frozen _ k=>∀b,v_ P (k b)
 | .getObj _ k=>(∀o o',Px o o'->k o=k o')/\∀o,v_ P (k o)
 | .setObj _ _ _=>False
 | .choose _ k=>∀n,v_ P (k n)
 | .sys _ _=>False
 | .program k=>v_ P (k P)
 | .mark m k=>ad8 m/\v_ P k
 | .halt h=>Gs h
section
variable {P:aN}{α β:Type}
theorem v_.bind:∀(s:Sem α)(f:α->Sem β),v_ P s->(∀a,v_ P (f a))->v_ P (s.bind f)
 | .pure a,_,_,h=>h a
 | .load _ _ k,f,h,h'=>⟨h.1,λv=>v_.bind (k v) f (h.2 v) h'⟩
 | .store _ _ _ k,f,h,h'=>⟨h.1,v_.bind k f h.2 h'⟩
 | .new _ k,f,h,h'=>⟨h.1,λv=>v_.bind (k v) f (h.2 v) h'⟩
 | .shape _ k,f,h,h'=>λv=>v_.bind (k v) f (h v) h'
 | .freeze _ _ _,_,h,_=>h.elim
 | .frozen _ k,f,h,h'=>λv=>v_.bind (k v) f (h v) h'
 | .getObj _ k,f,h,h'=>⟨λo o' g=>bI (λs=>Sem.bind s f) (h.1 o o' g),λv=>v_.bind (k v) f (h.2 v) h'⟩
 | .setObj _ _ _,_,h,_=>h.elim
 | .choose _ k,f,h,h'=>λv=>v_.bind (k v) f (h v) h'
 | .sys _ _,_,h,_=>h.elim
 | .program k,f,h,h'=>v_.bind (k P) f h h'
 | .mark _ k,f,h,h'=>⟨h.1,v_.bind k f h.2 h'⟩
 | .halt _,_,h,_=>h
theorem v_.Xy:∀(s:Sem α)(f:α->Sem β),v_ P s->(∀a,qW P (f a))->(∀a,Plain P (f a))->Plain P (s.bind f)
 | .pure a,_,_,_,h=>h a
 | .load _ _ k,f,h,hd,h'=>⟨h.1,λv=>v_.Xy (k v) f (h.2 v) hd h'⟩
 | .store _ _ _ k,f,h,hd,h'=>⟨h.1,v_.Xy k f h.2 hd h'⟩
 | .new _ k,f,h,hd,h'=>⟨h.1,λv=>v_.Xy (k v) f (h.2 v) hd h'⟩
 | .shape _ k,f,h,hd,h'=>⟨λ_ _=>.inl (qW.late _ f hd),λv=>v_.Xy (k v) f (h v) hd h'⟩
 | .freeze _ _ _,_,h,_,_=>h.elim
 | .frozen _ k,f,h,hd,h'=>λv=>v_.Xy (k v) f (h v) hd h'
 | .getObj _ k,f,h,hd,h'=>⟨λo o' g=>.inl (bI (λs=>Sem.bind s f) (h.1 o o' g)),λv=>v_.Xy (k v) f (h.2 v) hd h'⟩
 | .setObj _ _ _,_,h,_,_=>h.elim
 | .choose _ k,f,h,hd,h'=>λv=>v_.Xy (k v) f (h v) hd h'
 | .sys _ _,_,h,_,_=>h.elim
 | .program k,f,h,hd,h'=>v_.Xy (k P) f h hd h'
 | .mark _ k,f,h,hd,h'=>⟨h.1,v_.Xy k f h.2 hd h'⟩
 | .halt _,_,h,_,_=>h
theorem YJ(a:α):v_ P (pure a:Sem α):=trivial
theorem YK{s:Sem α}{f:α->Sem β}(h:v_ P s)(h':∀a,v_ P (f a)):v_ P (s>>=f):=v_.bind s f h h'
theorem aeh(r:Nat):v_ P (shape r):=λ_=>trivial
theorem aci(a:Addr):v_ P (frozen a):=λ_=>trivial
theorem NZ(u:Unsupported):qW P (unsupported u:Sem α):=trivial
theorem acj{s:Sem α}{f:α->Sem β}(h:∀a,qW P (f a)):qW P (s>>=f):=qW.late s f h
theorem aei{s:Sem α}{f:α->Sem β}(h:v_ P s)(hd:∀a,qW P (f a))(h':∀a,Plain P (f a)):Plain P (s>>=f):=v_.Xy s f h hd h'
theorem aej:Plain P (mark .noRoom):=⟨.inl rfl,trivial⟩
theorem Dh{t:aF}{d:TypeDesc}(h:P.underlying t=some d){f:TypeDesc->Sem β}(hf:Plain P (f d)):Plain P (underlying t>>=f):=by show Plain P ((match P.underlying t with|some d=>pure d|none=>stuck "no such type" :Sem TypeDesc).bind f);rw[h];exact hf
end
attribute [local irreducible] Plain v_
section
variable {P:aN}{α β:Type}
theorem aek(a:Addr)(n:Nat):v_ P (Builtin.holdsCells a n):=by unfold Builtin.holdsCells;exact YK (aeh _) λs=>by split<;>exact YJ _
theorem Xz(a b c:Nat)(o:aY)(x:ai):v_ P (Builtin.mayShare a b c o x):=by
 unfold Builtin.mayShare;dsimp only
 repeat'(first|with_reducible exact YJ _|with_reducible exact aek _ _|with_reducible exact aci _|with_reducible refine YK ?_ (λ_=>?_)|split|dsimp only)
theorem aak(ts:Array aF)(t:aF)(avg:aB):Plain P (Builtin.append_ ts t avg):=by
 have ar0:∀{γ:Type}(sz sLen n:Nat)(base:aY)(x:ai),Plain P (Builtin.mayShare sz sLen n base x>>=λb=>if(!b)=true then(mark .noRoom>>=λ_=>(unsupported (.resourceLimit "append: a slice or a string whose bytes no memory bears"):Sem γ))else unsupported (.resourceLimit "append: a slice or a string whose bytes no memory bears")):=λsz sLen n base x=>by
  refine aei (Xz _ _ _ _ _) (λa=>?_) (λa=>?_)
  .split
   .exact acj λ_=>NZ _
   .exact NZ _
  ·(repeat'(first|((with_reducible refine rX ?_);exact trivial)|with_reducible(first|exact aej|(refine qp ?_ (λ_=>?_))|(refine qO ?_ ?_))))
 unfold Builtin.append_
 (repeat'(first|with_reducible(first|exact qo _|exact qw _|exact vw _|exact NS _|exact qG _|exact tH _|exact J6 _|exact rV _|exact rD _|exact SK _|exact G8 _ _ _|exact wG _|exact y9 _ _ _|exact Bh _ _|exact ar0 _ _ _ _ _|(refine qp ?_ (λ_=>?_))|(refine qO ?_ ?_))|split))
theorem ack(op:BinOp)(k:IntKind)(x:Int)(yk:IntKind)(y:Int):Plain P (Op.shift op k x yk y):=by unfold Op.shift;(repeat'(first|with_reducible(first|exact qo _|exact qw _|exact rD _|(refine qO ?_ ?_))|split))
theorem VK(op:BinOp)(k:IntKind)(x y:Int):Plain P (Op.intArith op k x y):=by unfold Op.intArith;(repeat'(first|with_reducible(first|exact qo _|exact qw _)|split))
theorem aam(op:BinOp)(k:IntKind)(x y:Int):Plain P (Op.intDiv op k x y):=by unfold Op.intDiv;(repeat'(first|with_reducible(first|exact qo _|exact qw _|exact rD _|(refine qO ?_ ?_))|split))
theorem XA(op:BinOp)(k:IntKind)(x y:Int):Plain P (Op.intBits op k x y):=by unfold Op.intBits;(repeat'(first|with_reducible(first|exact qo _|exact qw _)|split))
theorem aan(op:BinOp)(x y:Int):Plain P (Op.intCmp op x y):=by unfold Op.intCmp;(repeat'(first|with_reducible(first|exact qo _|exact qw _)|split))
theorem G_(op:BinOp)(k:FloatKind)(x y:Nat):Plain P (Op.floatArith op k x y):=by unfold Op.floatArith;(repeat'(first|with_reducible(first|exact qo _|exact qw _|exact vw _|(refine qp ?_ (λ_=>?_)))|split|(dsimp only)))
theorem J_(op:BinOp)(k:FloatKind)(x y:Nat):Plain P (Op.floatCmp op k x y):=by unfold Op.floatCmp;(repeat'(first|with_reducible(first|exact qo _|exact qw _)|split))
theorem E_(op:BinOp)(x y:ByteArray):Plain P (Op.stringOp op x y):=by unfold Op.stringOp;(repeat'(first|with_reducible(first|exact qo _|exact qw _)|((with_reducible refine rX ?_);exact trivial)|with_reducible(refine qO ?_ ?_)|split))
theorem ahs(a:FloatKind)(b:Nat)(c:FloatKind):Plain P (Conv.floatToFloat a b c):=by unfold Conv.floatToFloat;(repeat'(first|with_reducible(first|exact qo _|exact vw _|(refine qp ?_ (λ_=>?_))|(refine qO ?_ ?_))|split))
theorem Eg(op:BinOp)(k:FloatKind)(x y:Nat):Plain P (Op.Complex.arith op k x y):=by unfold Op.Complex.arith;(repeat'(first|with_reducible(first|exact qo _|exact qw _|exact G_ _ _ _ _|(refine qp ?_ (λ_=>?_)))|split))
theorem VL(op:BinOp)(k:FloatKind)(x y:Nat):Plain P (Op.Complex.cmp op k x y):=by unfold Op.Complex.cmp;(repeat'(with_reducible first|exact J_ _ _ _ _|exact Ed _|(refine qp ?_ (λ_=>?_))))
theorem acm(a:FloatKind)(b:Nat)(c:FloatKind):Plain P (Op.Complex.conv a b c):=by unfold Op.Complex.conv;(repeat'(first|with_reducible(first|exact qo _|exact qw _|exact ahs _ _ _|(refine qp ?_ (λ_=>?_))|(refine qO ?_ ?_))|split))
theorem acn(a b c d:Nat):Plain P (Op.Complex.product a b c d):=by unfold Op.Complex.product Op.Complex.add Op.Complex.sub Op.Complex.mul;(repeat'(with_reducible first|exact qo _|exact Eg _ _ _ _|(refine qp ?_ (λ_=>?_))))
theorem aco(s a b c d:Nat):Plain P (Op.Complex.corrected s a b c d):=by unfold Op.Complex.corrected Op.Complex.add Op.Complex.sub Op.Complex.mul;(repeat'(with_reducible first|exact qo _|exact Eg _ _ _ _|(refine qp ?_ (λ_=>?_))))
theorem acp(a b c d:Nat):Plain P (Op.Complex.quotient a b c d):=by unfold Op.Complex.quotient Op.Complex.add Op.Complex.sub Op.Complex.mul Op.Complex.quo;(repeat'(with_reducible first|exact qo _|exact Eg _ _ _ _|exact VL _ _ _ _|exact aco _ _ _ _ _|(refine qp ?_ (λ_=>?_))|(refine qO ?_ ?_)))
theorem XB(op:BinOp)(k:FloatKind)(a b c d:Nat):Plain P (Op.complexOp op k a b c d):=by unfold Op.complexOp;(repeat'(first|with_reducible(first|exact qo _|exact qw _|exact Eg _ _ _ _|exact VL _ _ _ _|exact acm _ _ _|exact acn _ _ _ _|exact acp _ _ _ _|(refine qp ?_ (λ_=>?_))|(refine qO ?_ ?_))|split))
theorem acr(p:aN)(d:Nat)(e:aF)(off:Nat)(b:Int):cellAtBytes p d e 0 off b=none:=by
 unfold cellAtBytes;dsimp only;split
 .rfl
 .cases byteOfCell p d e (off%p.cellsOf e)with
  |none=>rfl
  |some here=>
   simp only[gX,oL,gK];rw[ay]
   .rfl
   .rw[l_,decide_eq_true_iff,decide_eq_true_iff];have:∀z:Int,z<0\/z≥Int.ofNat 0:=λz=>by have:Int.ofNat 0=0:=rfl;omega
    exact this _
theorem IY(t:aF)(x y:ai):Plain P (Builtin.unsafeAdd_ #[] t #[x,y]):=by
 have hd:∀(a:Addr)(n:Int)(e:aF),qW P (program>>=λp=>match cellAtBytes p p.depth e (0/p.cellsOf e) a.off n with
    |some off=>(pure (.pointer (some {a with off})):Sem ai)
    |none=>unsupported (.unsafePointer "Add")):=λa n e=>by
  show qW P (match cellAtBytes P P.depth e (0/P.cellsOf e) a.off n with
    |some off=>(pure (.pointer (some {a with off})):Sem ai)
    |none=>unsupported (.unsafePointer "Add"))
  rw[Nat.zero_div,acr];exact NZ _
 unfold Builtin.unsafeAdd_;cases x with
 |pointer ptr=>
  dsimp only;refine qp (J6 _) λn=>?_
  cases ptr with
  |none=>(repeat'(first|((with_reducible refine rX ?_);exact trivial)|with_reducible(first|(refine qp ?_ (λ_=>?_))|(refine qO ?_ ?_))))
  |some a=>
   have key:Plain P (shape a.block>>=λs=>match s with
     |some (e,cells)=>(program>>=λp=>match cellAtBytes p p.depth e (cells/p.cellsOf e) a.off n with
      |some off=>(pure (.pointer (some {a with off})):Sem ai)
      |none=>unsupported (.unsafePointer "Add"))
     |_=>unsupported (.unsafePointer "Add")):=by
    refine J7 (λt m=>.inl (hd a n t)) λs=>by(repeat'(first|with_reducible exact qo _|((with_reducible refine rX ?_);exact trivial)|with_reducible(first|exact sD|(refine qp ?_ (λ_=>?_)))|split))
   refine qO ?_ ?_
   .exact VF (λ_=>trivial) (λ_=>qp (rX trivial) λ_=>qo _) (qo _)
   .refine qO ?_ ?_
    .exact qp (rX trivial) λ_=>key
    .exact key
 |_=>exact qw _
theorem IZ(a b:Addr):Plain P (Op.twoPlaces a b):=by unfold Op.twoPlaces;(repeat'(first|with_reducible exact qo _|((with_reducible refine rX ?_);exact trivial)|with_reducible(first|exact sD|exact Ef _|(refine qp ?_ (λ_=>?_))|(refine qO ?_ ?_))))
theorem XC(k:IntKind)(a b:Addr):Plain P (Op.addrSub k a b):=by unfold Op.addrSub;(repeat'(with_reducible first|exact qo _|exact IZ _ _|(refine qp ?_ (λ_=>?_))))
theorem XD(op:BinOp)(a b:Addr):Plain P (Op.addrCmp op a b):=by unfold Op.addrCmp;(repeat'(first|with_reducible exact qo _|((with_reducible refine rX ?_);exact trivial)|with_reducible(first|exact IZ _ _|(refine qp ?_ (λ_=>?_)))|split))
theorem XE(k:IntKind)(a:Addr)(n:Int):Plain P (Op.addrMod k a n):=by unfold Op.addrMod;exact J7 (λ_ _=>.inr rfl) λs=>by(repeat'(first|with_reducible exact qo _|((with_reducible refine rX ?_);exact trivial)|with_reducible(first|exact rV _|exact Ef _|(refine qp ?_ (λ_=>?_))|(refine qO ?_ ?_))|split))
theorem VM(a:Addr)(l:Bool):Plain P (asNumber a l):=by unfold asNumber;exact qp (LH (o:=.number a l) trivial) λ_=>qo _
theorem PD(t:aF)(x y:ai):Plain P (movedNumber t x y):=by unfold movedNumber;(repeat'(first|with_reducible exact qo _|((with_reducible refine rX ?_);exact trivial)|with_reducible(first|exact qG _|exact IY _ _ _|exact Iu _|exact VM _ _|(refine qp ?_ (λ_=>?_))|(refine qO ?_ ?_))|split))
theorem N7(t:aF)(x y:ai):Plain P (movedPointer t x y):=by unfold movedPointer;(repeat'(first|((with_reducible refine rX ?_);exact trivial)|with_reducible(first|exact J4 _|exact IY _ _ _|(refine qp ?_ (λ_=>?_))|(refine qO ?_ ?_))|split))
end
end Go.Lf
namespace Go.Lf
structure qI(P:aN){α:Type}(s:Sem α):Prop where
 WM:∀{X:Nat->Prop}{Y:Nat->aV}(w v:ah)(es:aH)(x:α)(v':ah)(rZ:aH),xZ X Y w v->s.runT P v es=(.ok x v',rZ)->
  ∃w',s.runT P w es=(.ok x w',rZ)/\xZ X Y w' v'/\v.heap.size<=v'.heap.size/\∀e∈rZ,e∈es\/EvP X w' e
 tape:∀(v:ah)(es:aH)(x:α)(v':ah)(rZ:aH),(∀(b:Nat)(o:Obj),v.heap[b]?=some o->wX o)->s.runT P v es=(.ok x v',rZ)->
  v'.tape=v.tape/\v.drawn<=v'.drawn/\∀τ:Nat->Question->Nat,(∀p,v.drawn<=p->p<v'.drawn->τ p=v.tape p)->s.runT P {v with tape:=τ} es=(.ok x {v' with tape:=τ},rZ)
 Tu:∀{X:Nat->Prop}{Y:Nat->aV}(w v:ah)(es:aH)(x:Halt)(v':ah)(rZ:aH),xZ X Y w v->s.runT P v es=(.halt x v',rZ)->Gs x
section
variable {P:aN}{α β:Type}
theorem qI.of{s:Sem α}(h:Plain P s):qI P s:=⟨λw v es x v' rZ=>vX s w v es x v' rZ h,λv es x v' rZ=>wM s v es x v' rZ h,λw v es x v' rZ=>uJ s w v es x v' rZ h⟩
theorem qI.bind{s:Sem α}{f:α->Sem β}(h:qI P s)(h':∀a,qI P (f a)):qI P (s>>=f):=by
 have e:∀w es,(s>>=f).runT P w es=match s.runT P w es with
   |(.ok a w',rZ)=>(f a).runT P w' rZ
   |(.halt x w',rZ)=>(.halt x w',rZ):=λw es=>Go.Sem.runT_bind' P s f w es
 refine⟨λw v es x v' rZ hs hr=>?_,λv es x v' rZ hn hr=>?_,λw v es x v' rZ hs hr=>?_⟩
 .rw[e]at hr;cases xK:s.runT P v es with
  |mk r MC=>
   rw[xK]at hr;cases r with
   |halt y v1=>cases hr
   |ok a v1=>
    obtain⟨w1,h1,h2,h3,h4⟩:=h.WM w v es a v1 MC hs xK;obtain⟨w2,g1,g2,g3,g4⟩:=(h' a).WM w1 v1 MC x v' rZ h2 hr;refine⟨w2,by rw[e,h1];exact g1,g2,ag,λev hev=>?_⟩;rcases g4 ev hev with g5|g5
    .rcases h4 ev g5 with g6|g6
     .exact .inl g6
     .exact .inr (g6.grow axC)
    .exact .inr g5
 .rw[e]at hr;cases xK:s.runT P v es with
  |mk r MC=>
   rw[xK]at hr;cases r with
   |halt y v1=>cases hr
   |ok a v1=>
    obtain⟨h1,h2,h3⟩:=h.tape v es a v1 MC hn xK;obtain⟨w1,_,yE,_,_⟩:=h.WM v v es a v1 MC (xZ.self hn) xK;obtain⟨g1,g2,g3⟩:=(h' a).tape v1 MC x v' rZ yE.nv hr;exact azV
 .rw[e]at hr;cases xK:s.runT P v es with
  |mk r MC=>
   rw[xK]at hr;cases r with
   |halt y v1=>
    cases hr;exact h.Tu w v es x v' rZ hs xK
   |ok a v1=>
    obtain⟨w1,_,h2,_,_⟩:=h.WM w v es a v1 MC hs xK;exact(h' a).Tu w1 v1 MC x v' rZ h2 hr
theorem Q4{k:aN->Sem α}(h:qI P (k P)):qI P (program>>=k):=⟨λw v es x v' rZ hs hr=>h.WM w v es x v' rZ hs hr,λv es x v' rZ hn hr=>h.tape v es x v' rZ hn hr,λw v es x v' rZ hs hr=>h.Tu w v es x v' rZ hs hr⟩
theorem qI.ite{c:Prop}[Decidable c]{a b:Sem α}(h:qI P a)(h':qI P b):qI P (if c then a else b):=by split<;>assumption
def sgW(u:ah)(a:Addr):Bool:=u.frozen? a||match u.shape? a.block with
 |some (_,n)=>u.frozen? {block:=a.block,off:=n}
 |none=>false
def emW(u:ah)(a:Addr):Bool:=(u.shape? a.block) matches some (_,0)
def mbW(u:ah)(a b:Addr):Bool:=(sgW u a&&sgW u b)||(sgW u a&&emW u a)||(sgW u b&&emW u b)
theorem run_frozen(a:Addr)(u:ah)(es:aH):(frozen a).runT P u es=(.ok (u.frozen? a) u,es):=rfl
theorem run_shape(r:Nat)(u:ah)(es:aH):(shape r).runT P u es=(.ok (u.shape? r) u,es):=rfl
theorem Na(a:Addr)(u:ah)(es:aH):(stringish a).runT P u es=(.ok (sgW u a) u,es):=by
 unfold stringish sgW;show(Sem.bind (frozen a) _).runT P u es=_;rw[Go.Sem.runT_bind',run_frozen];cases hf:u.frozen? a with
 |true=>rfl
 |false=>
  simp only[dC,bQ,kU];show(Sem.bind (shape a.block) _).runT P u es=_;rw[Go.Sem.runT_bind',run_shape];cases u.shape? a.block with
  |none=>rfl
  |some x=>rfl
theorem Bo(a b:Addr)(u:ah)(es:aH):(mayBeOne a b).runT P u es=(.ok (mbW u a b) u,es):=by unfold mayBeOne;show(Sem.bind (stringish a) _).runT P u es=_;rw[Go.Sem.runT_bind',Na];show(Sem.bind (stringish b) _).runT P u es=_;rw[Go.Sem.runT_bind',Na];rfl
theorem afK{X:Nat->Prop}{Y:Nat->aV}{w v:ah}(h:xZ X Y w v)(a:Addr):sgW w a=sgW v a/\(sgW v a=true->emW w a=emW v a):=by
 have sh:¬X a.block->w.shape? a.block=v.shape? a.block:=λhx=>by
  cases hy:Y a.block with
  |some o=>
   obtain⟨o',h1,h2,hg⟩:=h.gho _ _ hy;simp only[World.shape?,h1,h2];rcases hg with⟨b,t,rfl,rfl⟩|⟨c,t,rfl,rfl⟩<;>rfl
  |none=>simp only[World.shape?,h.same a.block hx hy]
 by_cases hx:X a.block
 .have no:∀n,v.frozen? {block:=a.block,off:=n}=false:=λn=>by
   obtain⟨cs,t,fr,h1,h2⟩:=h.doc _ hx;obtain rfl:=h.unf _ _ _ _ hx h2;simp[World.frozen?,h2]
  have nv:sgW v a=false:=by
   unfold sgW
   have h1:v.frozen? a=false:=by have:=no a.off;simpa[World.frozen?]using this
   rw[h1,kU];split
   .exact no _
   .rfl
  have nw:sgW w a=false:=by
   unfold sgW
   have h1:w.frozen? a=false:=by rw[h.frozen];have:=no a.off;simpa[World.frozen?]using this
   rw[h1,kU];split
   .rw[h.frozen];exact no _
   .rfl
  exact⟨nw.trans nv.symm,λhh=>by rw[nv]at hh;cases hh⟩
 .refine⟨?_,λ_=>by unfold emW;rw[sh hx]⟩;unfold sgW;rw[sh hx,h.frozen];split
  .rw[h.frozen]
  .rfl
theorem XF(a b:Addr):qI P (mayBeOne a b):=by
 refine⟨λw v es x v' rZ hs hr=>?_,λv es x v' rZ hn hr=>?_,λw v es x v' rZ hs hr=>?_⟩
 .rw[Bo]at hr;cases hr;refine⟨w,?_,hs,az _,λe he=>.inl he⟩;rw[Bo];have ha:=afK hs a;have hb:=afK hs b
  have:mbW w a b=mbW v a b:=by
   unfold mbW;rw[ha.1,hb.1];cases h1:sgW v a<;>cases h2:sgW v b<;>simp only[Bool.false_and,Bool.true_and,kU,av5]
   .exact hb.2 h2
   .rw[ha.2 h1]
  rw[this]
 .rw[Bo]at hr;cases hr;exact⟨rfl,az _,λτ _=>by rw[Bo];rfl⟩
 .rw[Bo]at hr;cases hr
end
attribute [local irreducible] Plain
section
variable {P:aN}{α β:Type}
theorem rP(a:α):qI P (pure a:Sem α):=qI.of (qo a)
theorem uk(s:String):qI P (stuck s:Sem α):=qI.of (qw s)
theorem wR{u:Unsupported}(h:Gs (.unsupported u)):qI P (unsupported u:Sem α):=qI.of (rX h)
theorem PG:qI P program:=qI.of sD
theorem Di(q:Question):qI P (choose q):=qI.of (vw q)
theorem N8{γ σ:Type}{f:γ->σ->Sem (ForInStep σ)}(h:∀a s,qI P (f a s)):∀(l:List γ)(s:σ),qI P (forIn l s f)
 |[],s=>by rw[List.forIn_nil];exact rP _
 |a::l,s=>by
  rw[List.forIn_cons];refine qI.bind (h a s) λr=>?_
  cases r with
  |done b=>exact rP _
  |yield b=>exact N8 h l b
theorem YL{γ σ:Type}{f:γ->σ->Sem (ForInStep σ)}(h:∀a s,qI P (f a s))(l:Array γ)(s:σ):qI P (forIn l s f):=by rw[<-Array.forIn_toList];exact N8 h _ _
theorem YM{σ:Type}{f:Nat->σ->Sem (ForInStep σ)}(h:∀a s,qI P (f a s))(n:Nat)(s:σ):qI P (forIn [0:n] s f):=by rw[Std.Legacy.Range.forIn_eq_forIn_range'];exact N8 h _ _
theorem Nb(a b:Addr):qI P (sameAddr a b):=by
 unfold sameAddr
 (repeat'(first|with_reducible exact rP _|((with_reducible refine wR ?_);exact trivial)|with_reducible(first|exact Di _|exact XF _ _|exact qI.of (Pj _)|exact qI.of (Pz _)|(refine qI.bind ?_ (λ_=>?_))|(refine qI.ite ?_ ?_))))
theorem Q5(a b:aY):qI P (samePointer a b):=by
 unfold samePointer
 (repeat'(first|with_reducible(first|exact rP _|exact Nb _ _)|split))
theorem aao(t:aF):qI P (typeStr t):=by
 unfold typeStr
 (repeat'(first|with_reducible exact rP _|((with_reducible refine wR ?_);exact trivial)|with_reducible(first|exact qI.of (rV _)|(refine qI.bind ?_ (λ_=>?_))|(refine qI.ite ?_ ?_))))
theorem PH:∀(d:Nat)(t:aF)(x y:ai),qI P (Op.equalIn d t x y)
 |0,_,_,_=>wR trivial
 |d+1,t,x,y=>by
  have ih:=PH d;unfold Op.equalIn;refine qI.bind (qI.of (qG _)) λu=>?_
  split
  all_goals(repeat'(first|with_reducible(first|exact rP _|exact uk _)|((with_reducible refine wR ?_);exact trivial)|with_reducible(first|exact PG|exact Di _|exact ih _ _ _|exact Nb _ _|exact Q5 _ _|exact aao _|exact qI.of (rV _)|exact qI.of (tH _)|exact qI.of (Iu _)|exact qI.of (Ef _)|exact qI.of (rD _)|exact YL (λ_ _=>by(repeat'(with_reducible first|exact rP _|exact ih _ _ _|exact qI.of (yR _ _ _)|(refine qI.bind ?_ (λ_=>?_))|(refine qI.ite ?_ ?_)))) _ _|exact YM (λ_ _=>by(repeat'(with_reducible first|exact rP _|exact ih _ _ _|exact qI.of (yR _ _ _)|(refine qI.bind ?_ (λ_=>?_))|(refine qI.ite ?_ ?_)))) _ _|(refine qI.bind ?_ (λ_=>?_))|(refine qI.ite ?_ ?_))|split|(dsimp only)))
theorem ael(t:aF)(x y:ai):qI P (Op.equal t x y):=PH _ t x y
theorem PK:∀(d:Nat)(t:aF)(x y:ai),qI P (Op.eqGuardIn d t x y)
 |0,_,_,_=>wR trivial
 |d+1,t,x,y=>by
  have ih:=PK d;unfold Op.eqGuardIn;refine qI.bind (qI.of (qG _)) λu=>?_
  split
  all_goals(repeat'(first|with_reducible(first|exact rP _|exact qI.of (tH _)|exact YL (λ_ _=>by(repeat'(with_reducible first|exact rP _|exact ih _ _ _|exact qI.of (yR _ _ _)|(refine qI.bind ?_ (λ_=>?_))|(refine qI.ite ?_ ?_)))) _ _|exact YM (λ_ _=>by(repeat'(with_reducible first|exact rP _|exact ih _ _ _|exact qI.of (yR _ _ _)|(refine qI.bind ?_ (λ_=>?_))|(refine qI.ite ?_ ?_)))) _ _|(refine qI.bind ?_ (λ_=>?_)))|split|(dsimp only)))
theorem aef(op:BinOp)(t:aF)(x y:Operand)(a b:ai):qI P (eqGuard op t x y a b):=by
 unfold eqGuard
 (repeat'(first|with_reducible exact rP _|((with_reducible refine wR ?_);exact trivial)|with_reducible(first|exact PG|exact PK _ _ _ _|(refine qI.bind ?_ (λ_=>?_))|(refine qI.ite ?_ ?_))|split))
theorem aeg(op:BinOp)(t:aF)(x y:ai):qI P (binOp op t x y):=by unfold binOp;split<;>(repeat'(first|with_reducible(first|exact rP _|exact uk _)|((with_reducible refine wR ?_);exact trivial)|with_reducible(first|exact ael _ _ _|exact qI.of (ack _ _ _ _ _)|exact qI.of (VK _ _ _ _)|exact qI.of (aam _ _ _ _)|exact qI.of (XA _ _ _ _)|exact qI.of (aan _ _ _)|exact qI.of (G_ _ _ _ _)|exact qI.of (J_ _ _ _ _)|exact qI.of (E_ _ _ _)|exact qI.of (XB _ _ _ _ _ _)|exact qI.of (XC _ _ _)|exact qI.of (XD _ _ _)|exact qI.of (XE _ _ _)|exact qI.of (PD _ _ _)|exact qI.of (N7 _ _ _)|exact qI.of (Iu _)|exact qI.of (qG _)|(refine qI.bind ?_ (λ_=>?_))|(refine qI.ite ?_ ?_))|split))
theorem TV(x:ai)(a b:aF)(c:Bool):qI P (Instr.typeAssert x a b c):=by
 unfold Instr.typeAssert
 (repeat'(first|with_reducible(first|exact rP _|exact uk _|exact qI.of (qG _)|exact qI.of (rV _)|exact qI.of (wG _)|exact qI.of (rD _)|(refine qI.bind ?_ (λ_=>?_))|(refine qI.ite ?_ ?_))|split))
theorem NY(t:aF)(x:ai):qI P (Instr.makeInterface t x):=by
 unfold Instr.makeInterface
 (repeat'(first|with_reducible(first|exact rP _|exact uk _|exact qI.of (qG _)|(refine qI.bind ?_ (λ_=>?_)))|split))
theorem aht(x y:ai):qI P (Builtin.max2 x y):=by unfold Builtin.max2;split<;>(repeat'(first|with_reducible(first|exact rP _|exact uk _)|((with_reducible refine wR ?_);exact trivial)|with_reducible(first|exact Di _|exact qI.of (E_ _ _ _)|exact qI.of (Ed _)|(refine qI.bind ?_ (λ_=>?_)))|split))
theorem PL:∀(l:aK)(x:ai),qI P (l.foldlM Builtin.max2 x)
 |[],x=>by rw[List.foldlM_nil];exact rP _
 |y::l,x=>by rw[List.foldlM_cons];exact qI.bind (aht x y) λr=>PL l r
theorem akx(ts:Array aF)(t:aF)(avg:aB):qI P (Builtin.max_ ts t avg):=by
 unfold Builtin.max_;split
 .exact uk _
 .exact PL _ _
theorem VN(t:aF)(x:Place):qI P (x.get t):=by
 unfold Place.get
 (repeat'(first|with_reducible(first|exact rP _|exact qI.of (wY _ _))|split))
theorem SV:∀(path:List FieldStep)(t:aF)(x:Place),qI P (follow path t x)
 |[],_,_=>rP _
 |s::rest,t,x=>by
  have ih:=SV rest;unfold follow
  (repeat'(first|with_reducible(first|exact uk _|exact ih _ _|exact VN _ _|exact qI.of (qG _)|exact qI.of (Ee _)|exact qI.of (G7 _ _)|exact qI.of (yR _ _ _)|(refine qI.bind ?_ (λ_=>?_))|(refine qI.ite ?_ ?_))|split))
theorem aap(ts:Array aF)(t:aF)(avg:aB):qI P (Builtin.ssaWrapNilChk_ ts t avg):=by
 unfold Builtin.ssaWrapNilChk_;rcases avg with⟨_|⟨a,_|⟨b,_|⟨c,_|⟨d,l⟩⟩⟩⟩⟩
 case cons.cons.cons.nil=>
  cases b<;>first|exact uk _|skip
  cases c<;>first|exact uk _|skip
  cases a<;>first|exact uk _|skip
  rename_i p;cases p with
  |some _=>exact rP _
  |none=>
   refine qI.bind (s:=choose (.extern "ssa:wrapnilchk.dereferenced" 2)) (Di _) λr=>?_
   (repeat'(first|with_reducible exact uk _|((with_reducible refine wR ?_);exact trivial)|with_reducible(first|exact qI.of (qG _)|exact qI.of (rV _)|exact qI.of (rD _)|(refine qI.bind ?_ (λ_=>?_))|(refine qI.ite ?_ ?_))|split|(dsimp only)))
 all_goals exact uk _
theorem TY(xt:aF)(x:Place)(p:Bool)(wr:Option String):qI P (receiverAt xt x p wr):=by
 unfold receiverAt
 (repeat'(first|with_reducible(first|exact rP _|exact uk _|exact VN _ _|exact aap _ _ _|exact qI.of (qG _)|exact qI.of (wY _ _)|exact qI.of (Ee _)|(refine qI.bind ?_ (λ_=>?_)))|split))
theorem SS:∀(n:Nat)(t:aF)(v:ai)(name:String),qI P (method n t v name)
 |0,_,_,_=>wR trivial
 |n+1,t,v,name=>by
  have ih:=SS n;unfold method
  (repeat'(first|with_reducible(first|exact rP _|exact uk _|exact ih _ _ _|exact SV _ _ _|exact VN _ _|exact TY _ _ _ _|exact qI.of (rV _)|exact qI.of (rD _)|(refine qI.bind ?_ (λ_=>?_)))|split))

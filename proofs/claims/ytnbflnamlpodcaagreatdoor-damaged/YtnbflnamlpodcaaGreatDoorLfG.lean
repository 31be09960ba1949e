import Derived.Test.YtnbflnamlpodcaaGreatDoorLfB
namespace Go.Lf
def vO(P:Program){α:Type}:Sem α->Prop
 | .pure _=>True
 | .load m _ k=>m=.plain/\∀v,vO P (k v)
 | .store m _ _ k=>m=.plain/\vO P k
 | .new o k=>wL o/\∀r,vO P (k r)
 | .shape _ k=>∀s,vO P (k s)
 | .freeze _ _ _=>False
 | .frozen _ k=>∀b,vO P (k b)
 | .getObj _ k=>(∀o o',OC o o'->k o=k o')/\∀o,vO P (k o)
 | .setObj _ _ _=>False
 | .choose _ k=>∀n,vO P (k n)
 | .sys _ _=>False
 | .program k=>vO P (k P)
 | .mark m k=>adD m/\vO P k
 | .halt h=>FN h
section
variable {P:Program}{α β:Type}
theorem vO.bind:∀(s:Sem α)(f:α->Sem β),vO P s->(∀a,vO P (f a))->vO P (s.bind f)
 | .pure a,_,_,h=>h a
 | .load _ _ k,f,h,h'=>⟨h.1,λv=>vO.bind (k v) f (h.2 v) h'⟩
 | .store _ _ _ k,f,h,h'=>⟨h.1,vO.bind k f h.2 h'⟩
 | .new _ k,f,h,h'=>⟨h.1,λv=>vO.bind (k v) f (h.2 v) h'⟩
 | .shape _ k,f,h,h'=>λv=>vO.bind (k v) f (h v) h'
 | .freeze _ _ _,_,h,_=>h.elim
 | .frozen _ k,f,h,h'=>λv=>vO.bind (k v) f (h v) h'
 | .getObj _ k,f,h,h'=>⟨λo o' g=>aP (λs=>Sem.bind s f) (h.1 o o' g),λv=>vO.bind (k v) f (h.2 v) h'⟩
 | .setObj _ _ _,_,h,_=>h.elim
 | .choose _ k,f,h,h'=>λv=>vO.bind (k v) f (h v) h'
 | .sys _ _,_,h,_=>h.elim
 | .program k,f,h,h'=>vO.bind (k P) f h h'
 | .mark _ k,f,h,h'=>⟨h.1,vO.bind k f h.2 h'⟩
 | .halt _,_,h,_=>h
theorem vO.WH:∀(s:Sem α)(f:α->Sem β),vO P s->(∀a,qM P (f a))->(∀a,Plain P (f a))->Plain P (s.bind f)
 | .pure a,_,_,_,h=>h a
 | .load _ _ k,f,h,hd,h'=>⟨h.1,λv=>vO.WH (k v) f (h.2 v) hd h'⟩
 | .store _ _ _ k,f,h,hd,h'=>⟨h.1,vO.WH k f h.2 hd h'⟩
 | .new _ k,f,h,hd,h'=>⟨h.1,λv=>vO.WH (k v) f (h.2 v) hd h'⟩
 | .shape _ k,f,h,hd,h'=>⟨λ_ _=>.inl (qM.late _ f hd),λv=>vO.WH (k v) f (h v) hd h'⟩
 | .freeze _ _ _,_,h,_,_=>h.elim
 | .frozen _ k,f,h,hd,h'=>λv=>vO.WH (k v) f (h v) hd h'
 | .getObj _ k,f,h,hd,h'=>⟨λo o' g=>.inl (aP (λs=>Sem.bind s f) (h.1 o o' g)),λv=>vO.WH (k v) f (h.2 v) hd h'⟩
 | .setObj _ _ _,_,h,_,_=>h.elim
 | .choose _ k,f,h,hd,h'=>λv=>vO.WH (k v) f (h v) hd h'
 | .sys _ _,_,h,_,_=>h.elim
 | .program k,f,h,hd,h'=>vO.WH (k P) f h hd h'
 | .mark _ k,f,h,hd,h'=>⟨h.1,vO.WH k f h.2 hd h'⟩
 | .halt _,_,h,_,_=>h
theorem X0(a:α):vO P (pure a:Sem α):=trivial
theorem X5{s:Sem α}{f:α->Sem β}(h:vO P s)(h':∀a,vO P (f a)):vO P (s>>=f):=vO.bind s f h h'
theorem adN(r:Nat):vO P (shape r):=λ_=>trivial
theorem abK(a:Addr):vO P (frozen a):=λ_=>trivial
theorem MZ(u:Unsupported):qM P (unsupported u:Sem α):=trivial
theorem abL{s:Sem α}{f:α->Sem β}(h:∀a,qM P (f a)):qM P (s>>=f):=qM.late s f h
theorem adO{s:Sem α}{f:α->Sem β}(h:vO P s)(hd:∀a,qM P (f a))(h':∀a,Plain P (f a)):Plain P (s>>=f):=vO.WH s f h hd h'
theorem adP:Plain P (mark .noRoom):=⟨.inl rfl,trivial⟩
theorem Cb{t:TypeId}{d:TypeDesc}(h:P.underlying t=some d){f:TypeDesc->Sem β}(hf:Plain P (f d)):Plain P (underlying t>>=f):=by show Plain P ((match P.underlying t with|some d=>pure d|none=>stuck "no such type" :Sem TypeDesc).bind f);rw[h];exact hf
end
attribute [local irreducible] Plain vO
section
variable {P:Program}{α β:Type}
theorem adQ(a:Addr)(n:Nat):vO P (Builtin.holdsCells a n):=by unfold Builtin.holdsCells;exact X5 (adN _) λs=>by split<;>exact X0 _
theorem WI(a b c:Nat)(o:Option Addr)(x:Value):vO P (Builtin.mayShare a b c o x):=by
 unfold Builtin.mayShare;dsimp only
 repeat'(first|with_reducible exact X0 _|with_reducible exact adQ _ _|with_reducible exact abK _|with_reducible refine X5 ?_ (λ_=>?_)|split|dsimp only)
theorem Zt(ts:Array TypeId)(t:TypeId)(atO:Array Value):Plain P (Builtin.append_ ts t atO):=by
 have aqR:∀{γ:Type}(sz sLen n:Nat)(base:Option Addr)(x:Value),Plain P (Builtin.mayShare sz sLen n base x>>=λb=>if(!b)=true then(mark .noRoom>>=λ_=>(unsupported (.resourceLimit "append: a slice or a string whose bytes no memory bears"):Sem γ))else unsupported (.resourceLimit "append: a slice or a string whose bytes no memory bears")):=λsz sLen n base x=>by
  refine adO (WI _ _ _ _ _) (λa=>?_) (λa=>?_)
  .split
   .exact abL λ_=>MZ _
   .exact MZ _
  ·(repeat'(first|((with_reducible refine rF ?_);exact trivial)|with_reducible(first|exact adP|(refine qh ?_ (λ_=>?_))|(refine qI ?_ ?_))))
 unfold Builtin.append_
 (repeat'(first|with_reducible(first|exact qg _|exact qj _|exact uS _|exact MQ _|exact qp _|exact sQ _|exact JD _|exact rE _|exact qX _|exact Q_ _|exact Gt _ _ _|exact vU _|exact yN _ _ _|exact AA _ _|exact aqR _ _ _ _ _|(refine qh ?_ (λ_=>?_))|(refine qI ?_ ?_))|split))
theorem abM(op:BinOp)(k:IntKind)(x:Int)(yk:IntKind)(y:Int):Plain P (Op.shift op k x yk y):=by unfold Op.shift;(repeat'(first|with_reducible(first|exact qg _|exact qj _|exact qX _|(refine qI ?_ ?_))|split))
theorem U8(op:BinOp)(k:IntKind)(x y:Int):Plain P (Op.intArith op k x y):=by unfold Op.intArith;(repeat'(first|with_reducible(first|exact qg _|exact qj _)|split))
theorem Zv(op:BinOp)(k:IntKind)(x y:Int):Plain P (Op.intDiv op k x y):=by unfold Op.intDiv;(repeat'(first|with_reducible(first|exact qg _|exact qj _|exact qX _|(refine qI ?_ ?_))|split))
theorem WJ(op:BinOp)(k:IntKind)(x y:Int):Plain P (Op.intBits op k x y):=by unfold Op.intBits;(repeat'(first|with_reducible(first|exact qg _|exact qj _)|split))
theorem Zw(op:BinOp)(x y:Int):Plain P (Op.intCmp op x y):=by unfold Op.intCmp;(repeat'(first|with_reducible(first|exact qg _|exact qj _)|split))
theorem Gv(op:BinOp)(k:FloatKind)(x y:Nat):Plain P (Op.floatArith op k x y):=by unfold Op.floatArith;(repeat'(first|with_reducible(first|exact qg _|exact qj _|exact uS _|(refine qh ?_ (λ_=>?_)))|split|(dsimp only)))
theorem JH(op:BinOp)(k:FloatKind)(x y:Nat):Plain P (Op.floatCmp op k x y):=by unfold Op.floatCmp;(repeat'(first|with_reducible(first|exact qg _|exact qj _)|split))
theorem Es(op:BinOp)(x y:ByteArray):Plain P (Op.stringOp op x y):=by unfold Op.stringOp;(repeat'(first|with_reducible(first|exact qg _|exact qj _)|((with_reducible refine rF ?_);exact trivial)|with_reducible(refine qI ?_ ?_)|split))
theorem agF(a:FloatKind)(b:Nat)(c:FloatKind):Plain P (Conv.floatToFloat a b c):=by unfold Conv.floatToFloat;(repeat'(first|with_reducible(first|exact qg _|exact uS _|(refine qh ?_ (λ_=>?_))|(refine qI ?_ ?_))|split))
theorem DR(op:BinOp)(k:FloatKind)(x y:Nat):Plain P (Op.Complex.arith op k x y):=by unfold Op.Complex.arith;(repeat'(first|with_reducible(first|exact qg _|exact qj _|exact Gv _ _ _ _|(refine qh ?_ (λ_=>?_)))|split))
theorem U9(op:BinOp)(k:FloatKind)(x y:Nat):Plain P (Op.Complex.cmp op k x y):=by unfold Op.Complex.cmp;(repeat'(with_reducible first|exact JH _ _ _ _|exact DK _|(refine qh ?_ (λ_=>?_))))
theorem abN(a:FloatKind)(b:Nat)(c:FloatKind):Plain P (Op.Complex.conv a b c):=by unfold Op.Complex.conv;(repeat'(first|with_reducible(first|exact qg _|exact qj _|exact agF _ _ _|(refine qh ?_ (λ_=>?_))|(refine qI ?_ ?_))|split))
theorem abO(a b c d:Nat):Plain P (Op.Complex.product a b c d):=by unfold Op.Complex.product Op.Complex.add Op.Complex.sub Op.Complex.mul;(repeat'(with_reducible first|exact qg _|exact DR _ _ _ _|(refine qh ?_ (λ_=>?_))))
theorem abP(s a b c d:Nat):Plain P (Op.Complex.corrected s a b c d):=by unfold Op.Complex.corrected Op.Complex.add Op.Complex.sub Op.Complex.mul;(repeat'(with_reducible first|exact qg _|exact DR _ _ _ _|(refine qh ?_ (λ_=>?_))))
theorem abQ(a b c d:Nat):Plain P (Op.Complex.quotient a b c d):=by unfold Op.Complex.quotient Op.Complex.add Op.Complex.sub Op.Complex.mul Op.Complex.quo;(repeat'(with_reducible first|exact qg _|exact DR _ _ _ _|exact U9 _ _ _ _|exact abP _ _ _ _ _|(refine qh ?_ (λ_=>?_))|(refine qI ?_ ?_)))
theorem WL(op:BinOp)(k:FloatKind)(a b c d:Nat):Plain P (Op.complexOp op k a b c d):=by unfold Op.complexOp;(repeat'(first|with_reducible(first|exact qg _|exact qj _|exact DR _ _ _ _|exact U9 _ _ _ _|exact abN _ _ _|exact abO _ _ _ _|exact abQ _ _ _ _|(refine qh ?_ (λ_=>?_))|(refine qI ?_ ?_))|split))
theorem abR(p:Program)(d:Nat)(e:TypeId)(off:Nat)(b:Int):cellAtBytes p d e 0 off b=none:=by
 unfold cellAtBytes;dsimp only;split
 .rfl
 .cases byteOfCell p d e (off%p.cellsOf e)with
  |none=>rfl
  |some here=>
   simp only[fH,nG,fB];rw[aj]
   .rfl
   .rw[kU,decide_eq_true_iff,decide_eq_true_iff];have:∀z:Int,z<0\/z≥Int.ofNat 0:=λz=>by have:Int.ofNat 0=0:=rfl;omega
    exact this _
theorem Ik(t:TypeId)(x y:Value):Plain P (Builtin.unsafeAdd_ #[] t #[x,y]):=by
 have hd:∀(a:Addr)(n:Int)(e:TypeId),qM P (program>>=λp=>match cellAtBytes p p.depth e (0/p.cellsOf e) a.off n with
    |some off=>(pure (.pointer (some {a with off})):Sem Value)
    |none=>unsupported (.unsafePointer "Add")):=λa n e=>by
  show qM P (match cellAtBytes P P.depth e (0/P.cellsOf e) a.off n with
    |some off=>(pure (.pointer (some {a with off})):Sem Value)
    |none=>unsupported (.unsafePointer "Add"))
  rw[Nat.zero_div,abR];exact MZ _
 unfold Builtin.unsafeAdd_;cases x with
 |pointer ptr=>
  dsimp only;refine qh (JD _) λn=>?_
  cases ptr with
  |none=>(repeat'(first|((with_reducible refine rF ?_);exact trivial)|with_reducible(first|(refine qh ?_ (λ_=>?_))|(refine qI ?_ ?_))))
  |some a=>
   have key:Plain P (shape a.block>>=λs=>match s with
     |some (e,cells)=>(program>>=λp=>match cellAtBytes p p.depth e (cells/p.cellsOf e) a.off n with
      |some off=>(pure (.pointer (some {a with off})):Sem Value)
      |none=>unsupported (.unsafePointer "Add"))
     |_=>unsupported (.unsafePointer "Add")):=by
    refine JE (λt m=>.inl (hd a n t)) λs=>by(repeat'(first|with_reducible exact qg _|((with_reducible refine rF ?_);exact trivial)|with_reducible(first|exact rP|(refine qh ?_ (λ_=>?_)))|split))
   refine qI ?_ ?_
   .exact U3 (λ_=>trivial) (λ_=>qh (rF trivial) λ_=>qg _) (qg _)
   .refine qI ?_ ?_
    .exact qh (rF trivial) λ_=>key
    .exact key
 |_=>exact qj _
theorem Il(a b:Addr):Plain P (Op.twoPlaces a b):=by unfold Op.twoPlaces;(repeat'(first|with_reducible exact qg _|((with_reducible refine rF ?_);exact trivial)|with_reducible(first|exact rP|exact DN _|(refine qh ?_ (λ_=>?_))|(refine qI ?_ ?_))))
theorem WM(k:IntKind)(a b:Addr):Plain P (Op.addrSub k a b):=by unfold Op.addrSub;(repeat'(with_reducible first|exact qg _|exact Il _ _|(refine qh ?_ (λ_=>?_))))
theorem WN(op:BinOp)(a b:Addr):Plain P (Op.addrCmp op a b):=by unfold Op.addrCmp;(repeat'(first|with_reducible exact qg _|((with_reducible refine rF ?_);exact trivial)|with_reducible(first|exact Il _ _|(refine qh ?_ (λ_=>?_)))|split))
theorem WO(k:IntKind)(a:Addr)(n:Int):Plain P (Op.addrMod k a n):=by unfold Op.addrMod;exact JE (λ_ _=>.inr rfl) λs=>by(repeat'(first|with_reducible exact qg _|((with_reducible refine rF ?_);exact trivial)|with_reducible(first|exact rE _|exact DN _|(refine qh ?_ (λ_=>?_))|(refine qI ?_ ?_))|split))
theorem U_(a:Addr)(l:Bool):Plain P (asNumber a l):=by unfold asNumber;exact qh (Ku (o:=.number a l) trivial) λ_=>qg _
theorem OG(t:TypeId)(x y:Value):Plain P (movedNumber t x y):=by unfold movedNumber;(repeat'(first|with_reducible exact qg _|((with_reducible refine rF ?_);exact trivial)|with_reducible(first|exact qp _|exact Ik _ _ _|exact Hw _|exact U_ _ _|(refine qh ?_ (λ_=>?_))|(refine qI ?_ ?_))|split))
theorem M_(t:TypeId)(x y:Value):Plain P (movedPointer t x y):=by unfold movedPointer;(repeat'(first|((with_reducible refine rF ?_);exact trivial)|with_reducible(first|exact JC _|exact Ik _ _ _|(refine qh ?_ (λ_=>?_))|(refine qI ?_ ?_))|split))
end
end Go.Lf
namespace Go.Lf
structure qA(P:Program){α:Type}(s:Sem α):Prop where
 VQ:∀{X:Nat->Prop}{Y:Nat->Option Obj}(w v:World)(es:Array Event)(x:α)(v':World)(rJ:Array Event),xE X Y w v->s.runT P v es=(.ok x v',rJ)->
  ∃w',s.runT P w es=(.ok x w',rJ)/\xE X Y w' v'/\v.heap.size<=v'.heap.size/\∀e∈rJ,e∈es\/EvP X w' e
 tape:∀(v:World)(es:Array Event)(x:α)(v':World)(rJ:Array Event),(∀(b:Nat)(o:Obj),v.heap[b]?=some o->wL o)->s.runT P v es=(.ok x v',rJ)->
  v'.tape=v.tape/\v.drawn<=v'.drawn/\∀τ:Nat->Question->Nat,(∀p,v.drawn<=p->p<v'.drawn->τ p=v.tape p)->s.runT P {v with tape:=τ} es=(.ok x {v' with tape:=τ},rJ)
 RN:∀{X:Nat->Prop}{Y:Nat->Option Obj}(w v:World)(es:Array Event)(x:Halt)(v':World)(rJ:Array Event),xE X Y w v->s.runT P v es=(.halt x v',rJ)->FN x
section
variable {P:Program}{α β:Type}
theorem qA.of{s:Sem α}(h:Plain P s):qA P s:=⟨λw v es x v' rJ=>vJ s w v es x v' rJ h,λv es x v' rJ=>vZ s v es x v' rJ h,λw v es x v' rJ=>uz s w v es x v' rJ h⟩
theorem qA.bind{s:Sem α}{f:α->Sem β}(h:qA P s)(h':∀a,qA P (f a)):qA P (s>>=f):=by
 have e:∀w es,(s>>=f).runT P w es=match s.runT P w es with
   |(.ok a w',rJ)=>(f a).runT P w' rJ
   |(.halt x w',rJ)=>(.halt x w',rJ):=λw es=>Go.Sem.runT_bind' P s f w es
 refine⟨λw v es x v' rJ hs hr=>?_,λv es x v' rJ hn hr=>?_,λw v es x v' rJ hs hr=>?_⟩
 .rw[e]at hr;cases xW:s.runT P v es with
  |mk r KZ=>
   rw[xW]at hr;cases r with
   |halt y v1=>cases hr
   |ok a v1=>
    obtain⟨w1,h1,h2,h3,h4⟩:=h.VQ w v es a v1 KZ hs xW;obtain⟨w2,g1,g2,g3,g4⟩:=(h' a).VQ w1 v1 KZ x v' rJ h2 hr;refine⟨w2,by rw[e,h1];exact g1,g2,ae,λev hev=>?_⟩;rcases g4 ev hev with g5|g5
    .rcases h4 ev g5 with g6|g6
     .exact .inl g6
     .exact .inr (g6.grow avP)
    .exact .inr g5
 .rw[e]at hr;cases xW:s.runT P v es with
  |mk r KZ=>
   rw[xW]at hr;cases r with
   |halt y v1=>cases hr
   |ok a v1=>
    obtain⟨h1,h2,h3⟩:=h.tape v es a v1 KZ hn xW;obtain⟨w1,_,x9,_,_⟩:=h.VQ v v es a v1 KZ (xE.self hn) xW;obtain⟨g1,g2,g3⟩:=(h' a).tape v1 KZ x v' rJ x9.nv hr;exact axE
 .rw[e]at hr;cases xW:s.runT P v es with
  |mk r KZ=>
   rw[xW]at hr;cases r with
   |halt y v1=>
    cases hr;exact h.RN w v es x v' rJ hs xW
   |ok a v1=>
    obtain⟨w1,_,h2,_,_⟩:=h.VQ w v es a v1 KZ hs xW;exact(h' a).RN w1 v1 KZ x v' rJ h2 hr
theorem Qk{k:Program->Sem α}(h:qA P (k P)):qA P (program>>=k):=⟨λw v es x v' rJ hs hr=>h.VQ w v es x v' rJ hs hr,λv es x v' rJ hn hr=>h.tape v es x v' rJ hn hr,λw v es x v' rJ hs hr=>h.RN w v es x v' rJ hs hr⟩
theorem qA.ite{c:Prop}[Decidable c]{a b:Sem α}(h:qA P a)(h':qA P b):qA P (if c then a else b):=by split<;>assumption
def sgW(u:World)(a:Addr):Bool:=u.frozen? a||match u.shape? a.block with
 |some (_,n)=>u.frozen? {block:=a.block,off:=n}
 |none=>false
def emW(u:World)(a:Addr):Bool:=(u.shape? a.block) matches some (_,0)
def mbW(u:World)(a b:Addr):Bool:=(sgW u a&&sgW u b)||(sgW u a&&emW u a)||(sgW u b&&emW u b)
theorem run_frozen(a:Addr)(u:World)(es:Array Event):(frozen a).runT P u es=(.ok (u.frozen? a) u,es):=rfl
theorem run_shape(r:Nat)(u:World)(es:Array Event):(shape r).runT P u es=(.ok (u.shape? r) u,es):=rfl
theorem LQ(a:Addr)(u:World)(es:Array Event):(stringish a).runT P u es=(.ok (sgW u a) u,es):=by
 unfold stringish sgW;show(Sem.bind (frozen a) _).runT P u es=_;rw[Go.Sem.runT_bind',run_frozen];cases hf:u.frozen? a with
 |true=>rfl
 |false=>
  simp only[bu,aU,jO];show(Sem.bind (shape a.block) _).runT P u es=_;rw[Go.Sem.runT_bind',run_shape];cases u.shape? a.block with
  |none=>rfl
  |some x=>rfl
theorem AL(a b:Addr)(u:World)(es:Array Event):(mayBeOne a b).runT P u es=(.ok (mbW u a b) u,es):=by unfold mayBeOne;show(Sem.bind (stringish a) _).runT P u es=_;rw[Go.Sem.runT_bind',LQ];show(Sem.bind (stringish b) _).runT P u es=_;rw[Go.Sem.runT_bind',LQ];rfl
theorem afd{X:Nat->Prop}{Y:Nat->Option Obj}{w v:World}(h:xE X Y w v)(a:Addr):sgW w a=sgW v a/\(sgW v a=true->emW w a=emW v a):=by
 have sh:¬X a.block->w.shape? a.block=v.shape? a.block:=λhx=>by
  cases hy:Y a.block with
  |some o=>
   obtain⟨o',h1,h2,hg⟩:=h.gho _ _ hy;simp only[World.shape?,h1,h2];rcases hg with⟨b,t,rfl,rfl⟩|⟨c,t,rfl,rfl⟩<;>rfl
  |none=>simp only[World.shape?,h.same a.block hx hy]
 by_cases hx:X a.block
 .have no:∀n,v.frozen? {block:=a.block,off:=n}=false:=λn=>by
   obtain⟨cs,t,fr,h1,h2⟩:=h.doc _ hx;obtain rfl:=h.unf _ _ _ _ hx h2;simp[World.frozen?,h2]
  have nv:sgW v a=false:=by
   unfold sgW
   have h1:v.frozen? a=false:=by have:=no a.off;simpa[World.frozen?]using this
   rw[h1,jO];split
   .exact no _
   .rfl
  have nw:sgW w a=false:=by
   unfold sgW
   have h1:w.frozen? a=false:=by rw[h.frozen];have:=no a.off;simpa[World.frozen?]using this
   rw[h1,jO];split
   .rw[h.frozen];exact no _
   .rfl
  exact⟨nw.trans nv.symm,λhh=>by rw[nv]at hh;cases hh⟩
 .refine⟨?_,λ_=>by unfold emW;rw[sh hx]⟩;unfold sgW;rw[sh hx,h.frozen];split
  .rw[h.frozen]
  .rfl
theorem WQ(a b:Addr):qA P (mayBeOne a b):=by
 refine⟨λw v es x v' rJ hs hr=>?_,λv es x v' rJ hn hr=>?_,λw v es x v' rJ hs hr=>?_⟩
 .rw[AL]at hr;cases hr;refine⟨w,?_,hs,ak _,λe he=>.inl he⟩;rw[AL];have ha:=afd hs a;have hb:=afd hs b
  have:mbW w a b=mbW v a b:=by
   unfold mbW;rw[ha.1,hb.1];cases h1:sgW v a<;>cases h2:sgW v b<;>simp only[Bool.false_and,Bool.true_and,jO,auk]
   .exact hb.2 h2
   .rw[ha.2 h1]
  rw[this]
 .rw[AL]at hr;cases hr;exact⟨rfl,ak _,λτ _=>by rw[AL];rfl⟩
 .rw[AL]at hr;cases hr
end
attribute [local irreducible] Plain
section
variable {P:Program}{α β:Type}
theorem rq(a:α):qA P (pure a:Sem α):=qA.of (qg a)
theorem tY(s:String):qA P (stuck s:Sem α):=qA.of (qj s)
theorem wG{u:Unsupported}(h:FN (.unsupported u)):qA P (unsupported u:Sem α):=qA.of (rF h)
theorem OH:qA P program:=qA.of rP
theorem Ce(q:Question):qA P (choose q):=qA.of (uS q)
theorem Na{γ σ:Type}{f:γ->σ->Sem (ForInStep σ)}(h:∀a s,qA P (f a s)):∀(l:List γ)(s:σ),qA P (forIn l s f)
 |[],s=>by rw[List.forIn_nil];exact rq _
 |a::l,s=>by
  rw[List.forIn_cons];refine qA.bind (h a s) λr=>?_
  cases r with
  |done b=>exact rq _
  |yield b=>exact Na h l b
theorem X6{γ σ:Type}{f:γ->σ->Sem (ForInStep σ)}(h:∀a s,qA P (f a s))(l:Array γ)(s:σ):qA P (forIn l s f):=by rw[<-Array.forIn_toList];exact Na h _ _
theorem X7{σ:Type}{f:Nat->σ->Sem (ForInStep σ)}(h:∀a s,qA P (f a s))(n:Nat)(s:σ):qA P (forIn [0:n] s f):=by rw[Std.Legacy.Range.forIn_eq_forIn_range'];exact Na h _ _
theorem LU(a b:Addr):qA P (sameAddr a b):=by
 unfold sameAddr
 (repeat'(first|with_reducible exact rq _|((with_reducible refine wG ?_);exact trivial)|with_reducible(first|exact Ce _|exact WQ _ _|exact qA.of (Oz _)|exact qA.of (OE _)|(refine qA.bind ?_ (λ_=>?_))|(refine qA.ite ?_ ?_))))
theorem Ql(a b:Option Addr):qA P (samePointer a b):=by
 unfold samePointer
 (repeat'(first|with_reducible(first|exact rq _|exact LU _ _)|split))
theorem Zx(t:TypeId):qA P (typeStr t):=by
 unfold typeStr
 (repeat'(first|with_reducible exact rq _|((with_reducible refine wG ?_);exact trivial)|with_reducible(first|exact qA.of (rE _)|(refine qA.bind ?_ (λ_=>?_))|(refine qA.ite ?_ ?_))))
theorem OI:∀(d:Nat)(t:TypeId)(x y:Value),qA P (Op.equalIn d t x y)
 |0,_,_,_=>wG trivial
 |d+1,t,x,y=>by
  have ih:=OI d;unfold Op.equalIn;refine qA.bind (qA.of (qp _)) λu=>?_
  split
  all_goals(repeat'(first|with_reducible(first|exact rq _|exact tY _)|((with_reducible refine wG ?_);exact trivial)|with_reducible(first|exact OH|exact Ce _|exact ih _ _ _|exact LU _ _|exact Ql _ _|exact Zx _|exact qA.of (rE _)|exact qA.of (sQ _)|exact qA.of (Hw _)|exact qA.of (DN _)|exact qA.of (qX _)|exact X6 (λ_ _=>by(repeat'(with_reducible first|exact rq _|exact ih _ _ _|exact qA.of (yA _ _ _)|(refine qA.bind ?_ (λ_=>?_))|(refine qA.ite ?_ ?_)))) _ _|exact X7 (λ_ _=>by(repeat'(with_reducible first|exact rq _|exact ih _ _ _|exact qA.of (yA _ _ _)|(refine qA.bind ?_ (λ_=>?_))|(refine qA.ite ?_ ?_)))) _ _|(refine qA.bind ?_ (λ_=>?_))|(refine qA.ite ?_ ?_))|split|(dsimp only)))
theorem adR(t:TypeId)(x y:Value):qA P (Op.equal t x y):=OI _ t x y
theorem OJ:∀(d:Nat)(t:TypeId)(x y:Value),qA P (Op.eqGuardIn d t x y)
 |0,_,_,_=>wG trivial
 |d+1,t,x,y=>by
  have ih:=OJ d;unfold Op.eqGuardIn;refine qA.bind (qA.of (qp _)) λu=>?_
  split
  all_goals(repeat'(first|with_reducible(first|exact rq _|exact qA.of (sQ _)|exact X6 (λ_ _=>by(repeat'(with_reducible first|exact rq _|exact ih _ _ _|exact qA.of (yA _ _ _)|(refine qA.bind ?_ (λ_=>?_))|(refine qA.ite ?_ ?_)))) _ _|exact X7 (λ_ _=>by(repeat'(with_reducible first|exact rq _|exact ih _ _ _|exact qA.of (yA _ _ _)|(refine qA.bind ?_ (λ_=>?_))|(refine qA.ite ?_ ?_)))) _ _|(refine qA.bind ?_ (λ_=>?_)))|split|(dsimp only)))
theorem adL(op:BinOp)(t:TypeId)(x y:Operand)(a b:Value):qA P (eqGuard op t x y a b):=by
 unfold eqGuard
 (repeat'(first|with_reducible exact rq _|((with_reducible refine wG ?_);exact trivial)|with_reducible(first|exact OH|exact OJ _ _ _ _|(refine qA.bind ?_ (λ_=>?_))|(refine qA.ite ?_ ?_))|split))
theorem adM(op:BinOp)(t:TypeId)(x y:Value):qA P (binOp op t x y):=by unfold binOp;split<;>(repeat'(first|with_reducible(first|exact rq _|exact tY _)|((with_reducible refine wG ?_);exact trivial)|with_reducible(first|exact adR _ _ _|exact qA.of (abM _ _ _ _ _)|exact qA.of (U8 _ _ _ _)|exact qA.of (Zv _ _ _ _)|exact qA.of (WJ _ _ _ _)|exact qA.of (Zw _ _ _)|exact qA.of (Gv _ _ _ _)|exact qA.of (JH _ _ _ _)|exact qA.of (Es _ _ _)|exact qA.of (WL _ _ _ _ _ _)|exact qA.of (WM _ _ _)|exact qA.of (WN _ _ _)|exact qA.of (WO _ _ _)|exact qA.of (OG _ _ _)|exact qA.of (M_ _ _ _)|exact qA.of (Hw _)|exact qA.of (qp _)|(refine qA.bind ?_ (λ_=>?_))|(refine qA.ite ?_ ?_))|split))
theorem Sz(x:Value)(a b:TypeId)(c:Bool):qA P (Instr.typeAssert x a b c):=by
 unfold Instr.typeAssert
 (repeat'(first|with_reducible(first|exact rq _|exact tY _|exact qA.of (qp _)|exact qA.of (rE _)|exact qA.of (vU _)|exact qA.of (qX _)|(refine qA.bind ?_ (λ_=>?_))|(refine qA.ite ?_ ?_))|split))
theorem MX(t:TypeId)(x:Value):qA P (Instr.makeInterface t x):=by
 unfold Instr.makeInterface
 (repeat'(first|with_reducible(first|exact rq _|exact tY _|exact qA.of (qp _)|(refine qA.bind ?_ (λ_=>?_)))|split))
theorem agG(x y:Value):qA P (Builtin.max2 x y):=by unfold Builtin.max2;split<;>(repeat'(first|with_reducible(first|exact rq _|exact tY _)|((with_reducible refine wG ?_);exact trivial)|with_reducible(first|exact Ce _|exact qA.of (Es _ _ _)|exact qA.of (DK _)|(refine qA.bind ?_ (λ_=>?_)))|split))
theorem OL:∀(l:List Value)(x:Value),qA P (l.foldlM Builtin.max2 x)
 |[],x=>by rw[List.foldlM_nil];exact rq _
 |y::l,x=>by rw[List.foldlM_cons];exact qA.bind (agG x y) λr=>OL l r
theorem ajI(ts:Array TypeId)(t:TypeId)(atO:Array Value):qA P (Builtin.max_ ts t atO):=by
 unfold Builtin.max_;split
 .exact tY _
 .exact OL _ _
theorem Va(t:TypeId)(x:Place):qA P (x.get t):=by
 unfold Place.get
 (repeat'(first|with_reducible(first|exact rq _|exact qA.of (wK _ _))|split))
theorem Rk:∀(path:List FieldStep)(t:TypeId)(x:Place),qA P (follow path t x)
 |[],_,_=>rq _
 |s::rest,t,x=>by
  have ih:=Rk rest;unfold follow
  (repeat'(first|with_reducible(first|exact tY _|exact ih _ _|exact Va _ _|exact qA.of (qp _)|exact qA.of (DL _)|exact qA.of (Gs _ _)|exact qA.of (yA _ _ _)|(refine qA.bind ?_ (λ_=>?_))|(refine qA.ite ?_ ?_))|split))
theorem Zy(ts:Array TypeId)(t:TypeId)(atO:Array Value):qA P (Builtin.ssaWrapNilChk_ ts t atO):=by
 unfold Builtin.ssaWrapNilChk_;rcases atO with⟨_|⟨a,_|⟨b,_|⟨c,_|⟨d,l⟩⟩⟩⟩⟩
 case cons.cons.cons.nil=>
  cases b<;>first|exact tY _|skip
  cases c<;>first|exact tY _|skip
  cases a<;>first|exact tY _|skip
  rename_i p;cases p with
  |some _=>exact rq _
  |none=>
   refine qA.bind (s:=choose (.extern "ssa:wrapnilchk.dereferenced" 2)) (Ce _) λr=>?_
   (repeat'(first|with_reducible exact tY _|((with_reducible refine wG ?_);exact trivial)|with_reducible(first|exact qA.of (qp _)|exact qA.of (rE _)|exact qA.of (qX _)|(refine qA.bind ?_ (λ_=>?_))|(refine qA.ite ?_ ?_))|split|(dsimp only)))
 all_goals exact tY _
theorem SA(xt:TypeId)(x:Place)(p:Bool)(wr:Option String):qA P (receiverAt xt x p wr):=by
 unfold receiverAt
 (repeat'(first|with_reducible(first|exact rq _|exact tY _|exact Va _ _|exact Zy _ _ _|exact qA.of (qp _)|exact qA.of (wK _ _)|exact qA.of (DL _)|(refine qA.bind ?_ (λ_=>?_)))|split))
theorem Rj:∀(n:Nat)(t:TypeId)(v:Value)(name:String),qA P (method n t v name)
 |0,_,_,_=>wG trivial
 |n+1,t,v,name=>by
  have ih:=Rj n;unfold method
  (repeat'(first|with_reducible(first|exact rq _|exact tY _|exact ih _ _ _|exact Rk _ _ _|exact Va _ _|exact SA _ _ _ _|exact qA.of (rE _)|exact qA.of (qX _)|(refine qA.bind ?_ (λ_=>?_)))|split))

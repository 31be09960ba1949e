import Derived.Test.YtlghjjennhpjeaaGreatDoorAa
namespace Go.Lf
def xy:Obj->Prop
 | .view a _=>a.spot.isSome=true
 | .pending ..=>False
 |_=>True
def O8(o o':Obj):Prop:=
 (∃a t,o=.view a t/\o'=.view ⟨0,0,some default⟩ t)\/(∃c t,o=.pending c t/\o'=.stringIter .empty 0)
theorem O8.nv{o o':Obj}(h:O8 o o'):xy o':=by
 rcases h with⟨a,t,_,rfl⟩|⟨c,t,_,rfl⟩
 .rfl
 .trivial
def F5:Halt->Prop
 | .panic _=>True
 | .stuck _=>True
 | .unsupported (.initOrder _)=>False
 | .unsupported _=>True
 |_=>False
def qO(P:aP){α:Type}:Sem α->Prop
 | .pure _=>False
 | .load _ _ k=>∀v,qO P (k v)
 | .store _ _ _ k=>qO P k
 | .new _ k=>∀r,qO P (k r)
 | .shape _ k=>∀s,qO P (k s)
 | .freeze _ _ k=>qO P k
 | .frozen _ k=>∀b,qO P (k b)
 | .getObj _ k=>∀o,qO P (k o)
 | .setObj _ _ k=>qO P k
 | .choose _ k=>∀n,qO P (k n)
 | .sys _ k=>∀r,qO P (k r)
 | .program k=>qO P (k P)
 | .mark _ k=>qO P k
 | .halt _=>True
def adH(m:Mark):Prop:=m=.noRoom\/∃f,m=.extern f
def Plain(P:aP){α:Type}:Sem α->Prop
 | .pure _=>True
 | .load m _ k=>m=.plain/\∀v,Plain P (k v)
 | .store m _ _ k=>m=.plain/\Plain P k
 | .new o k=>xy o/\∀r,Plain P (k r)
 | .shape _ k=>(∀t n,qO P (k (some (t,0)))\/k (some (t,n))=k (some (t,0)))/\∀s,Plain P (k s)
 | .freeze _ _ _=>False
 | .frozen _ k=>∀b,Plain P (k b)
 | .getObj _ k=>(∀o o',O8 o o'->k o=k o'\/qO P (k o'))/\∀o,Plain P (k o)
 | .setObj _ _ _=>False
 | .choose _ k=>∀n,Plain P (k n)
 | .sys _ _=>False
 | .program k=>Plain P (k P)
 | .mark m k=>adH m/\Plain P k
 | .halt h=>F5 h
section
variable {P:aP}{α β:Type}
theorem qO.bind:∀(s:Sem α)(f:α->Sem β),qO P s->qO P (s.bind f)
 | .pure _,_,h=>h.elim
 | .load _ _ k,f,h=>λv=>qO.bind (k v) f (h v)
 | .store _ _ _ k,f,h=>qO.bind k f h
 | .new _ k,f,h=>λv=>qO.bind (k v) f (h v)
 | .shape _ k,f,h=>λv=>qO.bind (k v) f (h v)
 | .freeze _ _ k,f,h=>qO.bind k f h
 | .frozen _ k,f,h=>λv=>qO.bind (k v) f (h v)
 | .getObj _ k,f,h=>λv=>qO.bind (k v) f (h v)
 | .setObj _ _ k,f,h=>qO.bind k f h
 | .choose _ k,f,h=>λv=>qO.bind (k v) f (h v)
 | .sys _ k,f,h=>λv=>qO.bind (k v) f (h v)
 | .program k,f,h=>qO.bind (k P) f h
 | .mark _ k,f,h=>qO.bind k f h
 | .halt _,_,_=>trivial
theorem qO.late:∀(s:Sem α)(f:α->Sem β),(∀a,qO P (f a))->qO P (s.bind f)
 | .pure a,_,h=>h a
 | .load _ _ k,f,h=>λv=>qO.late (k v) f h
 | .store _ _ _ k,f,h=>qO.late k f h
 | .new _ k,f,h=>λv=>qO.late (k v) f h
 | .shape _ k,f,h=>λv=>qO.late (k v) f h
 | .freeze _ _ k,f,h=>qO.late k f h
 | .frozen _ k,f,h=>λv=>qO.late (k v) f h
 | .getObj _ k,f,h=>λv=>qO.late (k v) f h
 | .setObj _ _ k,f,h=>qO.late k f h
 | .choose _ k,f,h=>λv=>qO.late (k v) f h
 | .sys _ k,f,h=>λv=>qO.late (k v) f h
 | .program k,f,h=>qO.late (k P) f h
 | .mark _ k,f,h=>qO.late k f h
 | .halt _,_,_=>trivial
theorem Plain.bind:∀(s:Sem α)(f:α->Sem β),Plain P s->(∀a,Plain P (f a))->Plain P (s.bind f)
 | .pure a,_,_,h=>h a
 | .load _ _ k,f,h,h'=>⟨h.1,λv=>Plain.bind (k v) f (h.2 v) h'⟩
 | .store _ _ _ k,f,h,h'=>⟨h.1,Plain.bind k f h.2 h'⟩
 | .new _ k,f,h,h'=>⟨h.1,λv=>Plain.bind (k v) f (h.2 v) h'⟩
 | .shape _ k,f,h,h'=>⟨λt n=>(h.1 t n).imp (qO.bind _ f) (λe=>bI (λs=>Sem.bind s f) e),λv=>Plain.bind (k v) f (h.2 v) h'⟩
 | .freeze _ _ _,_,h,_=>h.elim
 | .frozen _ k,f,h,h'=>λv=>Plain.bind (k v) f (h v) h'
 | .getObj _ k,f,h,h'=>⟨λo o' g=>(h.1 o o' g).imp (λe=>bI (λs=>Sem.bind s f) e) (qO.bind _ f),λv=>Plain.bind (k v) f (h.2 v) h'⟩
 | .setObj _ _ _,_,h,_=>h.elim
 | .choose _ k,f,h,h'=>λv=>Plain.bind (k v) f (h v) h'
 | .sys _ _,_,h,_=>h.elim
 | .program k,f,h,h'=>Plain.bind (k P) f h h'
 | .mark _ k,f,h,h'=>⟨h.1,Plain.bind k f h.2 h'⟩
 | .halt _,_,h,_=>h
theorem rQ:∀(s:Sem α),qO P s->∀(w:ah)(es:aN),∃h w' rF,s.runT P w es=(.halt h w',rF)
 | .pure _,h,_,_=>h.elim
 | .load m a k,h,w,es=>by
   unfold Sem.runT;cases w.cell? a with
   |some v=>exact rQ (k v) (h v) _ _
   |none=>
    dsimp only;cases w.farLoad P a (m==.atomic)with
    |ok r=>exact rQ (k r.1) (h r.1) _ _
    |error e=>exact⟨_,_,_,rfl⟩
 | .store m a v k,h,w,es=>by
   cases v<;>first
    |exact⟨_,_,_,rfl⟩
    |(unfold Sem.runT
      cases w.cell? a with
      |some u=>
       dsimp only;split
       .exact⟨_,_,_,rfl⟩
       .exact rQ k h _ _
      |none=>
       dsimp only;cases w.farStore P a _ (m==.atomic)with
       |ok r=>exact rQ k h _ _
       |error e=>exact⟨_,_,_,rfl⟩)
 | .new o k,h,w,es=>rQ (k w.heap.size) (h _) _ es
 | .shape r k,h,w,es=>rQ (k (w.shape? r)) (h _) w es
 | .freeze a n k,h,w,es=>rQ k h (w.freeze a n) es
 | .frozen a k,h,w,es=>rQ (k (w.frozen? a)) (h _) w es
 | .getObj r k,h,w,es=>by
   unfold Sem.runT;split
   .exact⟨_,_,_,rfl⟩
   .exact rQ (k _) (h _) _ _
   .exact⟨_,_,_,rfl⟩
 | .setObj r o k,h,w,es=>by
   unfold Sem.runT;split
   .exact⟨_,_,_,rfl⟩
   .exact rQ k h _ _
   .exact⟨_,_,_,rfl⟩
 | .choose q k,h,w,es=>by
   unfold Sem.runT;split
   .exact rQ (k 0) (h _) _ _
   .exact rQ (k _) (h _) _ _
 | .sys c k,h,w,es=>rQ (k (w.sys c).1) (h _) (w.sys c).2 _
 | .program k,h,w,es=>rQ (k P) h w es
 | .mark m k,h,w,es=>rQ k h w _
 | .halt x,_,w,es=>⟨x,w,es,rfl⟩
end
structure yg(X:Nat->Prop)(Y:Nat->aZ)(w v:ah):Prop where
 size:w.heap.size=v.heap.size
 bound:∀b,X b\/(Y b).isSome=true->b<v.heap.size
 same:∀b,¬X b->Y b=none->w.heap[b]?=v.heap[b]?
 gho:∀b o,Y b=some o->∃o',w.heap[b]?=some o/\v.heap[b]?=some o'/\O8 o o'
 doc:∀b,X b->∃cs t fr,w.heap[b]?=some (.cells cs t fr)/\v.heap[b]?=some (.cells #[] t fr)
 nv:∀(b:Nat)(o:Obj),v.heap[b]?=some o->xy o
 os:w.os=v.os
 out:w.output=v.output
 str:∀i q,w.tape (w.drawn+i) q=v.tape (v.drawn+i) q
 unf:∀b cs t fr,X b->v.heap[b]?=some (.cells cs t fr)->fr=(0,0)
def EvP(X:Nat->Prop)(w:ah)(e:Event):Prop:=
 (∃a wr,e=⟨.cell a,wr,false⟩/\a.block<w.heap.size/\¬X a.block)\/(∃r wr sy,e=⟨.obj r,wr,sy⟩/\r<w.heap.size/\¬X r)\/∃m,adH m/\e=⟨.mark m,false,true⟩
section
variable {X:Nat->Prop}{Y:Nat->aZ}{w v:ah}
theorem EvP.grow{w':ah}{e:Event}(h:EvP X w e)(hs:w.heap.size<=w'.heap.size):EvP X w' e:=by
 rcases h with⟨a,wr,h1,h2,h3⟩|⟨r,wr,sy,h1,h2,h3⟩|h
 .exact .inl ⟨a,wr,h1,ag,h3⟩
 .exact .inr (.inl ⟨r,wr,sy,h1,ag,h3⟩)
 .exact .inr (.inr h)
theorem yg.af2(h:yg X Y w v){a:Addr}{u:ai}(hc:v.cell? a=some u):¬X a.block/\Y a.block=none/\a.block<v.heap.size:=by
 unfold World.cell? at hc;refine⟨λhx=>?_,?_,?_⟩
 .obtain⟨cs,t,fr,_,h2⟩:=h.doc _ hx;rw[h2]at hc;dsimp only at hc;split at hc<;>simp at hc
 .cases hy:Y a.block with
  |none=>rfl
  |some o=>
   obtain⟨o',_,h2,hg⟩:=h.gho _ _ hy;rw[h2]at hc;rcases hg with⟨b,t,_,rfl⟩|⟨c,t,_,rfl⟩<;>cases hc
 .cases hb:v.heap[a.block]? with
  |none=>rw[hb]at hc;simp at hc
  |some o=>exact(eG.1 hb).1
theorem yg.cell(h:yg X Y w v){a:Addr}(hx:¬X a.block)(hy:Y a.block=none):w.cell? a=v.cell? a:=by unfold World.cell?;rw[h.same _ hx hy]
theorem yg.frozen(h:yg X Y w v)(a:Addr):w.frozen? a=v.frozen? a:=by
 unfold World.frozen?;by_cases hx:X a.block
 .obtain⟨cs,t,fr,h1,h2⟩:=h.doc _ hx;rw[h1,h2]
 .cases hy:Y a.block with
  |some o=>
   obtain⟨o',h1,h2,hg⟩:=h.gho _ _ hy;rw[h1,h2];rcases hg with⟨b,t,rfl,rfl⟩|⟨c,t,rfl,rfl⟩<;>rfl
  |none=>rw[h.same _ hx hy]
theorem XY{P:aP}{v:ah}{b:Addr}(hb:b.spot.isSome=true)(t:aG)(a:Addr)(m:Bool):∃e,v.seen P b t a m=.error e:=by unfold World.seen;rw[hb,Bool.or_true];exact⟨_,rfl⟩
theorem MK{P:aP}{v:ah}{b:Addr}(hb:b.spot.isSome=true)(t:aG)(a:Addr)(m:Bool):∃e,v.viewLoad P b t a m=.error e:=by obtain⟨e,he⟩:=XY (P:=P) (v:=v) hb t a m;unfold World.viewLoad;exact axq
theorem JS{P:aP}{v:ah}{b:Addr}(hb:b.spot.isSome=true)(t:aG)(a:Addr)(u:ai)(m:Bool):∃e,v.viewStore P b t a u m=.error e:=by
 obtain⟨e,he⟩:=XY (P:=P) (v:=v) hb t a m;unfold World.viewStore;cases tight P P.depth t with
 |false=>exact⟨_,rfl⟩
 |true=>
  exact axq
theorem O9{P:aP}(hn:∀(b:Nat)(o:Obj),v.heap[b]?=some o->xy o)(a:Addr)(m:Bool):∃e,v.farLoad P a m=.error e:=by
 unfold World.farLoad;split
 .rename_i h;obtain⟨e,he⟩:=MK (P:=P) (v:=v) (hn _ _ h) _ a m;exact axq
 .exact⟨_,rfl⟩
theorem ML{P:aP}(hn:∀(b:Nat)(o:Obj),v.heap[b]?=some o->xy o)(a:Addr)(u:ai)(m:Bool):∃e,v.farStore P a u m=.error e:=by
 unfold World.farStore;split
 .rename_i h;obtain⟨e,he⟩:=JS (P:=P) (v:=v) (hn _ _ h) _ a u m;exact axq
 .exact⟨_,rfl⟩
theorem yg.modify(h:yg X Y w v)(b:Nat)(f:Obj->Obj)(hf:∀o,xy o->xy (f o))(hg:∀o o',O8 o o'->f o=o/\f o'=o')(hc:¬X b):
  yg X Y {w with heap:=w.heap.modify b f} {v with heap:=v.heap.modify b f}:=by
 refine⟨lu,λx hx=>by simpa using h.bound x hx,λx hx hy=>?_,λx o hy=>?_,λx hx=>?_,λx o hx=>?_,h.os,h.out,h.str,λx cs t fr hx hb=>?_⟩
 .simp only[iy,h.same x hx hy]
 .obtain⟨o',h1,h2,h3⟩:=h.gho x o hy;refine⟨o',?_,?_,h3⟩
  .simp only[iy,h1];split<;>simp[(hg o o' h3).1]
  .simp only[iy,h2];split<;>simp[(hg o o' h3).2]
 .obtain⟨cs,t,fr,h1,h2⟩:=h.doc x hx;simp only[iy,h1,h2];by_cases hb:b=x
  .subst hb;exact absurd hx hc
  .simp only[au hb];exact⟨cs,t,fr,rfl,rfl⟩
 .simp only[iy]at hx;by_cases hb:b=x
  .subst hb;simp only[aY,dU]at hx;obtain⟨o',h1,rfl⟩:=hx;exact hf o' (h.nv _ _ h1)
  .rw[au hb]at hx;exact h.nv _ _ hx
 .simp only[iy]at hb;by_cases hbx:b=x
  .subst hbx;exact absurd hx hc
  .rw[au hbx]at hb;exact h.unf x cs t fr hx hb
theorem yg.setCell(h:yg X Y w v){a:Addr}(hx:¬X a.block)(u:ai):yg X Y (w.setCell a u) (v.setCell a u):=
 h.modify a.block _ (λo ho=>by cases o<;>first|exact ho|trivial) (λo o' hg=>by rcases hg with⟨b,t,rfl,rfl⟩|⟨c,t,rfl,rfl⟩<;>exact⟨rfl,rfl⟩) hx
theorem yg.push(h:yg X Y w v){o:Obj}(ho:xy o):yg X Y {w with heap:=w.heap.push o} {v with heap:=v.heap.push o}:=by
 refine⟨lu,λb hb=>by have:=h.bound b hb;simp;omega,λb hb hy=>?_,λb o hy=>?_,λb hb=>?_,λb o' hb=>?_,h.os,h.out,h.str,λb cs t fr hx hb=>?_⟩
 .simp only[jo,h.size,h.same b hb hy]
 .rename_i oo;obtain⟨o2,h1,h2,h3⟩:=h.gho b _ hy;have qB:=h.bound b (.inr (by rw[hy];rfl));refine⟨o2,?_,?_,h3⟩
  .rw[jo,au aun];exact h1
  .rw[jo,au ag];exact h2
 .obtain⟨cs,t,fr,h1,h2⟩:=h.doc b hb;have qB:=h.bound b (.inl hb);refine⟨cs,t,fr,?_,?_⟩
  .rw[jo,au aun];exact h1
  .rw[jo,au ag];exact h2
 .simp only[jo]at hb;split at hb
  .cases hb;exact ho
  .exact h.nv b o' hb
 .have qB:=h.bound b (.inl hx);simp only[jo]at hb;rw[au ag]at hb;exact h.unf b cs t fr hx hb
theorem yg.draw(h:yg X Y w v):yg X Y {w with drawn:=w.drawn+1} {v with drawn:=v.drawn+1}:=
 ⟨h.size,h.bound,h.same,h.gho,h.doc,h.nv,h.os,h.out,λi q=>by have:=h.str (i+1) q;simpa[dO,nC 1 i]using this,h.unf⟩
end
theorem vP{P:aP}{X:Nat->Prop}{Y:Nat->aZ}{α:Type}:∀(s:Sem α)(w v:ah)(es:aN)(x:α)(v':ah)(rF:aN),Plain P s->yg X Y w v->s.runT P v es=(.ok x v',rF)->
  ∃w',s.runT P w es=(.ok x w',rF)/\yg X Y w' v'/\v.heap.size<=v'.heap.size/\∀e∈rF,e∈es\/EvP X w' e
 | .pure a,w,v,es,x,v',rF,_,h,hr=>by simp only[Sem.runT,oI,Result.ok.injEq]at hr;obtain⟨⟨rfl,rfl⟩,rfl⟩:=hr;exact⟨w,rfl,h,ay _,λe he=>.inl he⟩
 | .load m a k,w,v,es,x,v',rF,hp,h,hr=>by
   obtain⟨rfl,hp⟩:=hp;cases hc:v.cell? a with
   |none=>
    obtain⟨e,he⟩:=O9 (P:=P) h.nv a (Mode.plain==Mode.atomic);simp only[Sem.runT,hc,he]at hr;cases hr
   |some u=>
    obtain⟨hx,hy,qB⟩:=h.af2 hc;simp only[Sem.runT,hc]at hr;obtain⟨w',h1,h2,h3,h4⟩:=vP (k u) w v _ x v' rF (hp u) h hr;refine⟨w',by simp only[Sem.runT,h.cell hx hy,hc];exact h1,h2,h3,λe he=>?_⟩;rcases h4 e he with h5|h5
    .rcases kY.1 h5 with h6|rfl
     .exact .inl h6
     .exact .inr (.inl ⟨a,false,rfl,by rw[h2.size];omega,hx⟩)
    .exact .inr h5
 | .store m a u k,w,v,es,x,v',rF,hp,h,hr=>by
   obtain⟨rfl,hp⟩:=hp
   have key:(∀(w:ah),(Sem.store Mode.plain a u k).runT P w es=match w.cell? a with
     |some _=>if w.frozen? a then(.halt (.unsupported (.unsafePointer "a write to bytes that a string shares")) w,es)else k.runT P (w.setCell a u) (es.push ⟨.cell a,true,Mode.plain==Mode.atomic⟩)
     |none=>match w.farStore P a u (Mode.plain==Mode.atomic)with
      | .ok (w,touched)=>k.runT P w (es++touched.toArray.map (⟨.cell ·,true,Mode.plain==Mode.atomic⟩))
      | .error h=>(.halt h w,es))\/(∀(w:ah),(Sem.store Mode.plain a u k).runT P w es=(.halt (.stuck "store: not the value of one cell") w,es)):=by
    exact axK
   rcases key with key|key
   .rw[key]at hr;cases hc:v.cell? a with
    |none=>
     obtain⟨e,he⟩:=ML (P:=P) h.nv a u (Mode.plain==Mode.atomic);simp only[hc,he]at hr;cases hr
    |some u'=>
     obtain⟨hx,hy,qB⟩:=h.af2 hc;simp only[hc]at hr;cases hz:v.frozen? a with
     |true=>rw[hz]at hr;simp at hr
     |false=>
      rw[hz]at hr;simp only[dm,bU]at hr;obtain⟨w',h1,h2,h3,h4⟩:=vP k (w.setCell a u) (v.setCell a u) _ x v' rF hp (h.setCell hx u) hr;refine⟨w',by rw[key];simp only[h.cell hx hy,hc,h.frozen,hz,dm,bU];exact h1,h2,awf,λe he=>?_⟩;rcases h4 e he with h5|h5
      .rcases kY.1 h5 with h6|rfl
       .exact .inl h6
       .refine .inr (.inl ⟨a,true,rfl,?_,hx⟩);have:v.heap.size<=v'.heap.size:=awf;rw[h2.size];omega
      .exact .inr h5
   .rw[key]at hr;cases hr
 | .new o k,w,v,es,x,v',rF,hp,h,hr=>by simp only[Sem.runT]at hr;obtain⟨w',h1,h2,h3,h4⟩:=vP (k v.heap.size) _ _ es x v' rF (hp.2 _) (h.push hp.1) hr;refine⟨w',by simp only[Sem.runT,h.size];exact h1,h2,?_,h4⟩;simp at h3;omega
 | .shape r k,w,v,es,x,v',rF,hp,h,hr=>by
   simp only[Sem.runT]at hr;by_cases hx:X r
   .obtain⟨cs,t,fr,e1,e2⟩:=h.doc r hx;have s2:v.shape? r=some (t,0):=by simp[World.shape?,e2]
    have s1:w.shape? r=some (t,cs.size):=by simp[World.shape?,e1]
    rw[s2]at hr;rcases hp.1 t cs.size with hd|he
    .obtain⟨y,w',as9,hh⟩:=rQ (k (some (t,0))) hd v es;rw[hh]at hr;cases hr
    .obtain⟨w',h1,h2,h3,h4⟩:=vP (k (some (t,0))) w v es x v' rF (hp.2 _) h hr;exact⟨w',by simp only[Sem.runT,s1,he];exact h1,h2,h3,h4⟩
   .have e:w.shape? r=v.shape? r:=by
     cases hy:Y r with
     |some o=>
      obtain⟨o',h1,h2,hg⟩:=h.gho _ _ hy;simp only[World.shape?,h1,h2];rcases hg with⟨b,t,rfl,rfl⟩|⟨c,t,rfl,rfl⟩<;>rfl
     |none=>simp only[World.shape?,h.same r hx hy]
    obtain⟨w',h1,h2,h3,h4⟩:=vP (k (v.shape? r)) w v es x v' rF (hp.2 _) h hr;exact⟨w',by simp only[Sem.runT,e];exact h1,h2,h3,h4⟩
 | .freeze a n k,_,_,_,_,_,_,hp,_,_=>hp.elim
 | .frozen a k,w,v,es,x,v',rF,hp,h,hr=>by simp only[Sem.runT]at hr;obtain⟨w',h1,h2,h3,h4⟩:=vP (k (v.frozen? a)) w v es x v' rF (hp _) h hr;exact⟨w',by simp only[Sem.runT,h.frozen];exact h1,h2,h3,h4⟩
 | .getObj r k,w,v,es,x,v',rF,hp,h,hr=>by
   by_cases hx:X r
   .obtain⟨cs,t,fr,_,e2⟩:=h.doc r hx;simp only[Sem.runT,e2]at hr;cases hr
   .rcases hy:Y r with _|o
    case some=>
     obtain⟨o',h1,h2,hg⟩:=h.gho r o hy;have qB:=(eG.1 h2).1
     have ev:∀(u:ah)(q:Obj),u.heap[r]?=some q->(∀c t fr,q≠.cells c t fr)->(Sem.getObj r k).runT P u es=(k q).runT P u (es.push ⟨.obj r,false,q.isChan⟩):=λu q hu hq=>by cases q<;>first|exact absurd rfl (hq _ _ _)|simp only[Sem.runT,hu]
     have n1:∀c t fr,o≠.cells c t fr:=by rcases hg with⟨b,t,rfl,rfl⟩|⟨c,t,rfl,rfl⟩<;>(intro _ _ _ hh;cases hh)
     have n2:∀c t fr,o'≠.cells c t fr:=by rcases hg with⟨b,t,rfl,rfl⟩|⟨c,t,rfl,rfl⟩<;>(intro _ _ _ hh;cases hh)
     rw[ev v o' h2 n2]at hr;rcases hp.1 o o' hg with he|hd
     .have hi:o.isChan=o'.isChan:=by rcases hg with⟨b,t,rfl,rfl⟩|⟨c,t,rfl,rfl⟩<;>rfl
      obtain⟨w',h3,h4,h5,h6⟩:=vP (k o') w v _ x v' rF (hp.2 _) h hr;refine⟨w',by rw[ev w o h1 n1,he,hi];exact h3,h4,h5,λe he=>?_⟩;rcases h6 e he with h7|h7
      .rcases kY.1 h7 with h8|rfl
       .exact .inl h8
       .exact .inr (.inr (.inl ⟨r,_,_,rfl,by rw[h4.size];omega,hx⟩))
      .exact .inr h7
     .obtain⟨y,w',as9,hh⟩:=rQ (k o') hd v (es.push ⟨.obj r,false,o'.isChan⟩);rw[hh]at hr;cases hr
    have e:=h.same r hx hy;cases ho:v.heap[r]? with
    |none=>simp only[Sem.runT,ho]at hr;cases hr
    |some o=>
     have qB:=(eG.1 ho).1;cases o with
     |cells c t fr=>simp only[Sem.runT,ho]at hr;cases hr
     |_=>
      simp only[Sem.runT,ho]at hr;obtain⟨w',h1,h2,h3,h4⟩:=vP (k _) w v _ x v' rF (hp.2 _) h hr;refine⟨w',by simp only[Sem.runT,e,ho];exact h1,h2,h3,λe he=>?_⟩;rcases h4 e he with h5|h5
      .rcases kY.1 h5 with h6|rfl
       .exact .inl h6
       .exact .inr (.inr (.inl ⟨r,_,_,rfl,by rw[h2.size];omega,hx⟩))
      .exact .inr h5
 | .setObj r o k,_,_,_,_,_,_,hp,_,_=>hp.elim
 | .choose q k,w,v,es,x,v',rF,hp,h,hr=>by
   have e:w.tape w.drawn q=v.tape v.drawn q:=by simpa using h.str 0 q
   cases hq:q.forced with
   |true=>
    simp only[Sem.runT,hq,aY]at hr;obtain⟨w',h1,h2,h3,h4⟩:=vP (k 0) w v es x v' rF (hp _) h hr;exact⟨w',by simp only[Sem.runT,hq,aY];exact h1,h2,h3,h4⟩
   |false=>
    simp only[Sem.runT,hq,dm,bU]at hr;obtain⟨w',h1,h2,h3,h4⟩:=vP (k _) _ _ es x v' rF (hp _) h.draw hr;exact⟨w',by simp only[Sem.runT,hq,dm,bU,e];exact h1,h2,h3,h4⟩
 | .sys c k,_,_,_,_,_,_,hp,_,_=>hp.elim
 | .program k,w,v,es,x,v',rF,hp,h,hr=>by simp only[Sem.runT]at hr;obtain⟨w',h1,h2,h3,h4⟩:=vP (k P) w v es x v' rF hp h hr;exact⟨w',h1,h2,h3,h4⟩
 | .mark m k,w,v,es,x,v',rF,hp,h,hr=>by
   obtain⟨hm,hp⟩:=hp;simp only[Sem.runT]at hr;obtain⟨w',h1,h2,h3,h4⟩:=vP k w v _ x v' rF hp h hr;refine⟨w',h1,h2,h3,λe he=>?_⟩;rcases h4 e he with h5|h5
   .rcases kY.1 h5 with h6|rfl
    .exact .inl h6
    .exact .inr (.inr (.inr ⟨m,hm,rfl⟩))
   .exact .inr h5
 | .halt _,_,_,_,_,_,_,_,_,hr=>avb
theorem yg.self{v:ah}(hn:∀(b:Nat)(o:Obj),v.heap[b]?=some o->xy o):yg (λ_=>False) (λ_=>none) v v:=⟨rfl,λ_ h=>h.elim (λh=>h.elim) (λh=>gp),λ_ _ _=>rfl,λ_ _ h=>gp,λ_ h=>h.elim,hn,rfl,rfl,λ_ _=>rfl,λ_ _ _ _ h=>h.elim⟩
theorem wG{P:aP}{α:Type}:∀(s:Sem α)(v:ah)(es:aN)(x:α)(v':ah)(rF:aN),Plain P s->(∀(b:Nat)(o:Obj),v.heap[b]?=some o->xy o)->s.runT P v es=(.ok x v',rF)->
  v'.tape=v.tape/\v.drawn<=v'.drawn/\∀τ:Nat->Question->Nat,(∀p,v.drawn<=p->p<v'.drawn->τ p=v.tape p)->s.runT P {v with tape:=τ} es=(.ok x {v' with tape:=τ},rF)
 | .pure a,v,es,x,v',rF,_,_,hr=>by simp only[Sem.runT,oI,Result.ok.injEq]at hr;obtain⟨⟨rfl,rfl⟩,rfl⟩:=hr;exact⟨rfl,ay _,λ_ _=>rfl⟩
 | .load m a k,v,es,x,v',rF,hp,hn,hr=>by
   obtain⟨rfl,hp⟩:=hp;cases hc:v.cell? a with
   |none=>
    obtain⟨e,he⟩:=O9 (P:=P) hn a (Mode.plain==Mode.atomic);simp only[Sem.runT,hc,he]at hr;cases hr
   |some u=>
    simp only[Sem.runT,hc]at hr;obtain⟨h1,h2,h3⟩:=wG (k u) v _ x v' rF (hp u) hn hr;refine⟨h1,h2,λτ hτ=>?_⟩;have:({v with tape:=τ}:ah).cell? a=some u:=hc;simp only[Sem.runT,this];exact h3 τ hτ
 | .store m a u k,v,es,x,v',rF,hp,hn,hr=>by
   obtain⟨rfl,hp⟩:=hp
   have key:(∀(w:ah),(Sem.store Mode.plain a u k).runT P w es=match w.cell? a with
     |some _=>if w.frozen? a then(.halt (.unsupported (.unsafePointer "a write to bytes that a string shares")) w,es)else k.runT P (w.setCell a u) (es.push ⟨.cell a,true,Mode.plain==Mode.atomic⟩)
     |none=>match w.farStore P a u (Mode.plain==Mode.atomic)with
      | .ok (w,touched)=>k.runT P w (es++touched.toArray.map (⟨.cell ·,true,Mode.plain==Mode.atomic⟩))
      | .error h=>(.halt h w,es))\/(∀(w:ah),(Sem.store Mode.plain a u k).runT P w es=(.halt (.stuck "store: not the value of one cell") w,es)):=by
    exact axK
   rcases key with key|key
   .rw[key]at hr;cases hc:v.cell? a with
    |none=>
     obtain⟨e,he⟩:=ML (P:=P) hn a u (Mode.plain==Mode.atomic);simp only[hc,he]at hr;cases hr
    |some u'=>
     simp only[hc]at hr;cases hz:v.frozen? a with
     |true=>rw[hz]at hr;simp at hr
     |false=>
      rw[hz]at hr;simp only[dm,bU]at hr;obtain⟨h1,h2,h3⟩:=wG k (v.setCell a u) _ x v' rF hp ((yg.self hn).setCell (λh=>h) u).nv hr;refine⟨h1,h2,λτ hτ=>?_⟩;have e1:({v with tape:=τ}:ah).cell? a=some u':=hc;have e2:({v with tape:=τ}:ah).frozen? a=false:=hz;rw[key];simp only[e1,e2,dm,bU];exact h3 τ hτ
   .rw[key]at hr;cases hr
 | .new o k,v,es,x,v',rF,hp,hn,hr=>by simp only[Sem.runT]at hr;obtain⟨h1,h2,h3⟩:=wG (k v.heap.size) _ es x v' rF (hp.2 _) ((yg.self hn).push hp.1).nv hr;exact⟨h1,h2,λτ hτ=>h3 τ hτ⟩
 | .shape r k,v,es,x,v',rF,hp,hn,hr=>by simp only[Sem.runT]at hr;exact wG (k (v.shape? r)) v es x v' rF (hp.2 _) hn hr
 | .freeze a n k,_,_,_,_,_,hp,_,_=>hp.elim
 | .frozen a k,v,es,x,v',rF,hp,hn,hr=>by simp only[Sem.runT]at hr;exact wG (k (v.frozen? a)) v es x v' rF (hp _) hn hr
 | .getObj r k,v,es,x,v',rF,hp,hn,hr=>by
   cases ho:v.heap[r]? with
   |none=>simp only[Sem.runT,ho]at hr;cases hr
   |some o=>
    cases o with
    |cells c t fr=>simp only[Sem.runT,ho]at hr;cases hr
    |_=>
     simp only[Sem.runT,ho]at hr;obtain⟨h1,h2,h3⟩:=wG (k _) v _ x v' rF (hp.2 _) hn hr;refine⟨h1,h2,λτ hτ=>?_⟩;simp only[Sem.runT,ho];exact h3 τ hτ
 | .setObj r o k,_,_,_,_,_,hp,_,_=>hp.elim
 | .choose q k,v,es,x,v',rF,hp,hn,hr=>by
   cases hq:q.forced with
   |true=>
    simp only[Sem.runT,hq,aY]at hr;obtain⟨h1,h2,h3⟩:=wG (k 0) v es x v' rF (hp _) hn hr;refine⟨h1,h2,λτ hτ=>?_⟩;simp only[Sem.runT,hq,aY];exact h3 τ hτ
   |false=>
    simp only[Sem.runT,hq,dm,bU]at hr;obtain⟨h1,h2,h3⟩:=wG (k _) {v with drawn:=v.drawn+1} es x v' rF (hp _) hn hr;dsimp only at h1 h2 h3;refine⟨h1,ag,λτ hτ=>?_⟩;simp only[Sem.runT,hq,dm,bU];rw[hτ v.drawn (ay _) ag];exact h3 τ λp QI BJ=>hτ p ag BJ
 | .sys c k,_,_,_,_,_,hp,_,_=>hp.elim
 | .program k,v,es,x,v',rF,hp,hn,hr=>by simp only[Sem.runT]at hr;exact wG (k P) v es x v' rF hp hn hr
 | .mark m k,v,es,x,v',rF,hp,hn,hr=>by simp only[Sem.runT]at hr;exact wG k v _ x v' rF hp.2 hn hr
 | .halt _,_,_,_,_,_,_,_,hr=>avb
theorem XZ{v:ah}(hn:∀(b:Nat)(o:Obj),v.heap[b]?=some o->xy o)(a:Addr)(s:String):F5 (v.noCell a s):=by
 unfold World.noCell;split
 .rename_i h;exact(hn _ _ h).elim
 .trivial
 .trivial
theorem abI{P:aP}{v:ah}(hn:∀(b:Nat)(o:Obj),v.heap[b]?=some o->xy o)(a:Addr)(m:Bool):∃e,v.farLoad P a m=.error e/\F5 e:=by
 unfold World.farLoad;split
 .rename_i h;obtain⟨e,he⟩:=MK (P:=P) (v:=v) (hn _ _ h) _ a m;rw[he];exact⟨_,rfl,trivial⟩
 .exact⟨_,rfl,XZ hn _ _⟩
theorem Zy{P:aP}{v:ah}(hn:∀(b:Nat)(o:Obj),v.heap[b]?=some o->xy o)(a:Addr)(u:ai)(m:Bool):∃e,v.farStore P a u m=.error e/\F5 e:=by
 unfold World.farStore;split
 .rename_i h;obtain⟨e,he⟩:=JS (P:=P) (v:=v) (hn _ _ h) _ a u m;rw[he];exact⟨_,rfl,trivial⟩
 .exact⟨_,rfl,XZ hn _ _⟩
theorem uG{P:aP}{X:Nat->Prop}{Y:Nat->aZ}{α:Type}:∀(s:Sem α)(w v:ah)(es:aN)(x:Halt)(v':ah)(rF:aN),Plain P s->yg X Y w v->s.runT P v es=(.halt x v',rF)->F5 x
 | .pure a,w,v,es,x,v',rF,_,h,hr=>by simp only[Sem.runT]at hr;cases hr
 | .load m a k,w,v,es,x,v',rF,hp,h,hr=>by
   obtain⟨rfl,hp⟩:=hp;cases hc:v.cell? a with
   |none=>
    obtain⟨e,he,L8⟩:=abI (P:=P) h.nv a (Mode.plain==Mode.atomic);simp only[Sem.runT,hc,he]at hr;cases hr;exact L8
   |some u=>
    simp only[Sem.runT,hc]at hr;exact uG (k u) w v _ x v' rF (hp u) h hr
 | .store m a u k,w,v,es,x,v',rF,hp,h,hr=>by
   obtain⟨rfl,hp⟩:=hp
   have key:(∀(w:ah),(Sem.store Mode.plain a u k).runT P w es=match w.cell? a with
     |some _=>if w.frozen? a then(.halt (.unsupported (.unsafePointer "a write to bytes that a string shares")) w,es)else k.runT P (w.setCell a u) (es.push ⟨.cell a,true,Mode.plain==Mode.atomic⟩)
     |none=>match w.farStore P a u (Mode.plain==Mode.atomic)with
      | .ok (w,touched)=>k.runT P w (es++touched.toArray.map (⟨.cell ·,true,Mode.plain==Mode.atomic⟩))
      | .error h=>(.halt h w,es))\/(∀(w:ah),(Sem.store Mode.plain a u k).runT P w es=(.halt (.stuck "store: not the value of one cell") w,es)):=by
    exact axK
   rcases key with key|key
   .rw[key]at hr;cases hc:v.cell? a with
    |none=>
     obtain⟨e,he,L8⟩:=Zy (P:=P) h.nv a u (Mode.plain==Mode.atomic);simp only[hc,he]at hr;cases hr;exact L8
    |some u'=>
     simp only[hc]at hr;cases hz:v.frozen? a with
     |true=>
      rw[hz]at hr;simp only[aY]at hr;cases hr;trivial
     |false=>
      rw[hz]at hr;simp only[dm,bU]at hr;exact uG k _ _ _ x v' rF hp (h.setCell (h.af2 hc).1 u) hr
   .rw[key]at hr;cases hr;trivial
 | .new o k,w,v,es,x,v',rF,hp,h,hr=>uG (k v.heap.size) _ _ es x v' rF (hp.2 _) (h.push hp.1) hr
 | .shape r k,w,v,es,x,v',rF,hp,h,hr=>uG (k (v.shape? r)) w v es x v' rF (hp.2 _) h hr
 | .freeze a n k,_,_,_,_,_,_,hp,_,_=>hp.elim
 | .frozen a k,w,v,es,x,v',rF,hp,h,hr=>uG (k (v.frozen? a)) w v es x v' rF (hp _) h hr
 | .getObj r k,w,v,es,x,v',rF,hp,h,hr=>by
   cases ho:v.heap[r]? with
   |none=>simp only[Sem.runT,ho]at hr;cases hr;trivial
   |some o=>
    cases o with
    |cells c t fr=>simp only[Sem.runT,ho]at hr;cases hr;trivial
    |_=>
     simp only[Sem.runT,ho]at hr;exact uG (k _) w v _ x v' rF (hp.2 _) h hr
 | .setObj r o k,_,_,_,_,_,_,hp,_,_=>hp.elim
 | .choose q k,w,v,es,x,v',rF,hp,h,hr=>by
   cases hq:q.forced with
   |true=>
    simp only[Sem.runT,hq,aY]at hr;exact uG (k 0) w v es x v' rF (hp _) h hr
   |false=>
    simp only[Sem.runT,hq,dm,bU]at hr;exact uG (k _) _ _ es x v' rF (hp _) h.draw hr
 | .sys c k,_,_,_,_,_,_,hp,_,_=>hp.elim
 | .program k,w,v,es,x,v',rF,hp,h,hr=>uG (k P) w v es x v' rF hp h hr
 | .mark m k,w,v,es,x,v',rF,hp,h,hr=>uG k w v _ x v' rF hp.2 h hr
 | .halt y,w,v,es,x,v',rF,hp,_,hr=>by simp only[Sem.runT]at hr;cases hr;exact hp
section
variable {P:aP}{α β:Type}
theorem qm(a:α):Plain P (pure a:Sem α):=trivial
theorem aaO(a:α):Plain P (Sem.pure a):=trivial
theorem qp(s:String):Plain P (stuck s:Sem α):=trivial
theorem rE{u:Unsupported}(h:F5 (.unsupported u)):Plain P (unsupported u:Sem α):=h
theorem BM(v:ai):Plain P (goPanic v:Sem α):=trivial
theorem qo{s:Sem α}{f:α->Sem β}(h:Plain P s)(h':∀a,Plain P (f a)):Plain P (s>>=f):=Plain.bind s f h h'
theorem Qd{s:Sem α}{f:α->β}(h:Plain P s):Plain P (f<$>s):=Plain.bind s _ h λ_=>trivial
theorem Ns(a:Addr):Plain P (load a):=⟨rfl,λ_=>trivial⟩
theorem QZ(a:Addr)(v:ai):Plain P (store a v):=⟨rfl,trivial⟩
theorem K_{o:Obj}(h:xy o):Plain P (newObj o):=⟨h,λ_=>trivial⟩
theorem OI(a:Addr):Plain P (frozen a):=λ_=>trivial
theorem Ho{r:Nat}{f:Obj->Sem β}(h:∀o o',O8 o o'->f o=f o'\/qO P (f o'))(h':∀o,Plain P (f o)):Plain P (getObj r>>=f):=⟨h,h'⟩
theorem Nv{f:Obj->Sem β}(h1:∀a b t,f (.view a t)=f (.view b t))(h2:∀c t,f (.pending c t)=f (.stringIter .empty 0)):∀o o',O8 o o'->f o=f o'\/qO P (f o'):=by
 intro o o' g;rcases g with⟨a,t,rfl,rfl⟩|⟨c,t,rfl,rfl⟩
 .exact .inl (h1 _ _ _)
 .exact .inl (h2 _ _)
theorem JU(r:Nat):Plain P (numberAt r):=by
 refine⟨λt n=>.inr rfl,λs=>?_⟩;cases s with
 |some x=>trivial
 |none=>
  refine⟨λo o' g=>?_,λo=>?_⟩
  .rcases g with⟨a,t,rfl,rfl⟩|⟨c,t,rfl,rfl⟩<;>exact .inl rfl
  .cases o<;>trivial
theorem Vm{r:Nat}{f:Option (Addr×aG)->Sem β}(hd:∀y,qO P (f (some y)))(hs:∀y,Plain P (f (some y)))(hn:Plain P (f none)):Plain P (viewAt r>>=f):=by
 refine⟨λt n=>.inr rfl,λs=>?_⟩;cases s with
 |some x=>exact hn
 |none=>
  refine⟨λo o' g=>?_,λo=>?_⟩
  .rcases g with⟨a,t,rfl,rfl⟩|⟨c,t,rfl,rfl⟩
   .exact .inr (hd _)
   .exact .inl rfl
  .cases o<;>first|exact hn|exact hs _
theorem O_(a:Addr):Plain P (noView a):=by
 refine⟨λt n=>.inr rfl,λs=>?_⟩;cases s with
 |some x=>trivial
 |none=>
  refine⟨λo o' g=>?_,λo=>?_⟩
  .rcases g with⟨a,t,rfl,rfl⟩|⟨c,t,rfl,rfl⟩
   .exact .inr trivial
   .exact .inl rfl
  .cases o<;>trivial
theorem u_(q:Question):Plain P (choose q):=λ_=>trivial
theorem rH:Plain P program:=trivial
theorem Nu(n:Nat):Plain P (askRoom n):=by
 unfold askRoom;split
 .exact⟨.inl rfl,trivial⟩
 .trivial
theorem qL{c:Prop}[Decidable c]{a b:Sem α}(h:Plain P a)(h':Plain P b):Plain P (if c then a else b):=by split<;>assumption
end
attribute [local irreducible] Plain
section
variable {P:aP}{α β:Type}
theorem rD(t:aG):Plain P (typeInfo t):=by unfold typeInfo;(repeat'(first|with_reducible(first|exact qm _|exact qp _|exact rH|(refine qo ?_ (λ_=>?_)))|split))
theorem qy(t:aG):Plain P (underlying t):=by unfold underlying;(repeat'(first|with_reducible(first|exact qm _|exact qp _|exact rH|(refine qo ?_ (λ_=>?_)))|split))
theorem v_(t:aG):Plain P (zeroValue t):=by have:=rD (P:=P) t;unfold zeroValue;(repeat'(first|with_reducible(first|assumption|exact qm _)|((with_reducible refine rE ?_);exact trivial)|with_reducible(refine qo ?_ (λ_=>?_))|split))
theorem sK(t:aG):Plain P (sizeOf t):=by have:=rD (P:=P) t;unfold sizeOf;(repeat'(with_reducible first|assumption|exact qm _|(refine qo ?_ (λ_=>?_))))
theorem Rw(t:aG):Plain P (isAgg t):=by have:=qy (P:=P) t;unfold isAgg;(repeat'(first|with_reducible(first|assumption|exact qm _|(refine qo ?_ (λ_=>?_)))|split))
theorem OG(t:aG):Plain P (elemOf t):=by have:=qy (P:=P) t;unfold elemOf;(repeat'(first|with_reducible(first|assumption|exact qm _|exact qp _|(refine qo ?_ (λ_=>?_)))|split))
theorem Dh(a:Addr):∀(n i:Nat)(acc:aH),Plain P (loadCellsFrom a i n acc)
 |0,_,acc=>qm acc
 |n+1,i,acc=>by unfold loadCellsFrom;exact qo (Ns _) λv=>Dh a n _ _
theorem C9(a:Addr)(n:Nat):Plain P (loadCells a n):=Dh a n 0 #[]
theorem y9(a:Addr):∀(vs:aK)(i:Nat),Plain P (storeCells a vs i)
 |[],_=>qm ()
 |v::r,i=>by unfold storeCells;exact qo (QZ _ _) λ_=>y9 a r _
theorem wO(t:aG)(a:Addr):Plain P (loadVar t a):=by
 have:=Rw (P:=P) t;have:=sK (P:=P) t;unfold loadVar
 (repeat'(with_reducible first|assumption|exact qm _|exact Ns _|exact C9 _ _|(refine qo ?_ (λ_=>?_))|(refine qL ?_ ?_)))
theorem Ef(t:aG)(a:Addr)(v:ai):Plain P (storeVar t a v):=by
 have h1:=sK (P:=P) t;unfold storeVar
 (repeat'(with_reducible first|assumption|exact qp _|exact y9 _ _ _|(refine qo ?_ (λ_=>?_))|(refine qL ?_ ?_)))
theorem Vo(t:aG)(cs:aH)(fr:Nat×Nat):Plain P (newObj (.cells cs t fr)):=K_ (o:=.cells cs t fr) trivial
theorem Aw(t:aG)(cs:aH):Plain P (newRow t cs):=by unfold newRow;(repeat'(with_reducible first|exact qm _|exact Vo _ _ _|(refine qo ?_ (λ_=>?_))))
theorem Au(t:aG)(v:ai):Plain P (newVar t v):=Aw t _
theorem qW(e:RuntimeError):Plain P (runtimePanic e:Sem α):=by
 unfold runtimePanic
 (repeat'(first|with_reducible(first|exact BM _|exact rH|exact Au _ _|exact OG _|(refine qo ?_ (λ_=>?_)))|split))
theorem AQ(k:IntKind)(x y:Int)(c:BoundsCode):Plain P (boundsPanic k x y c:Sem α):=by
 unfold boundsPanic
 (repeat'(with_reducible first|exact qm _|exact u_ _|exact qW _|(refine qo ?_ (λ_=>?_))|(refine Qd ?_)|(refine qL ?_ ?_)))
theorem BP(v:ai):Plain P (asIntOf v):=by unfold asIntOf;(repeat'(first|with_reducible(first|exact qm _|exact qp _)|((with_reducible refine rE ?_);exact trivial)|split))
theorem JV(v:ai):Plain P (asInt v):=by have:=BP (P:=P) v;unfold asInt;(repeat'(with_reducible first|assumption|exact qm _|(refine qo ?_ (λ_=>?_))))
theorem Dz(v:ai):Plain P (asBool v):=by unfold asBool;(repeat'(first|with_reducible(first|exact qm _|exact qp _)|split))
theorem yK(v:ai):Plain P (Instr.sureAddr v):=by unfold Instr.sureAddr;(repeat'(first|with_reducible(first|exact qm _|exact qp _)|split))
theorem Dy(v:ai):Plain P (asAddr v):=by
 unfold asAddr
 (repeat'(first|with_reducible(first|exact qm _|exact qp _|exact qW _)|split))
theorem abJ(t:aG)(b:Bool)(o:ai):Plain P (Instr.alloc t b o):=by unfold Instr.alloc;(repeat'(first|with_reducible(first|exact qm _|exact v_ _|exact Ef _ _ _|exact Au _ _|(refine qo ?_ (λ_=>?_)))|split))
theorem Zz(t:aG)(v:ai):Plain P (Instr.loadAt t v):=by unfold Instr.loadAt;(repeat'(with_reducible first|exact wO _ _|exact yK _|(refine qo ?_ (λ_=>?_))))
theorem WA(t:aG)(v u:ai):Plain P (Instr.storeAt t v u):=by unfold Instr.storeAt;(repeat'(with_reducible first|exact Ef _ _ _|exact yK _|(refine qo ?_ (λ_=>?_))))
theorem WB(t:aG)(x i:ai):Plain P (Instr.indexAt t x i):=by unfold Instr.indexAt;(repeat'(first|with_reducible(first|exact qm _|exact qp _)|((with_reducible refine rE ?_);exact trivial)|with_reducible(first|exact qy _|exact sK _|exact AQ _ _ _ _|exact BP _|exact yK _|(refine qo ?_ (λ_=>?_))|(refine qL ?_ ?_))|split))
theorem Qo(x:ai)(y:Nat)(c:BoundsCode):Plain P (Instr.sliceBound x y c):=by unfold Instr.sliceBound;(repeat'(with_reducible first|exact qm _|exact AQ _ _ _ _|exact BP _|(refine qo ?_ (λ_=>?_))|(refine qL ?_ ?_)))
theorem FB(b:Bool)(l c:Nat)(lo hi mx:Option ai):Plain P (Instr.sliceBounds b l c lo hi mx):=by
 unfold Instr.sliceBounds
 (repeat'(first|with_reducible(first|exact qm _|exact qp _|exact Qo _ _ _|(refine qo ?_ (λ_=>?_)))|split))
theorem abK(t:aG)(x:ai)(lo hi mx:Option ai):Plain P (Instr.slice t x lo hi mx):=by
 unfold Instr.slice
 (repeat'(first|with_reducible(first|exact qm _|exact qp _|exact FB _ _ _ _ _ _|exact qy _|exact sK _|exact Dy _|(refine qo ?_ (λ_=>?_))|(refine qL ?_ ?_))|split))
theorem WC(t:aG)(x:ai)(lo hi mx:Option ai):Plain P (Instr.sliceAt t x lo hi mx):=by
 unfold Instr.sliceAt
 (repeat'(first|with_reducible(first|exact qm _|exact FB _ _ _ _ _ _|exact abK _ _ _ _ _|exact qy _|exact sK _|exact yK _|(refine qo ?_ (λ_=>?_)))|split))
theorem SH(t:aG)(l c:ai):Plain P (Instr.makeSlice t l c):=by unfold Instr.makeSlice;(repeat'(first|with_reducible(first|exact qm _|exact qp _|exact u_ _|exact Nu _|exact rD _|exact qy _|exact v_ _|exact sK _|exact Aw _ _|exact qW _|exact JV _|(refine qo ?_ (λ_=>?_))|(refine qL ?_ ?_))|split))
theorem WE(t:ai)(i:Nat):Plain P (Instr.extract t i):=by unfold Instr.extract;(repeat'(first|with_reducible(first|exact qm _|exact qp _)|split))
theorem abL(o:UnOp)(x:ai):Plain P (Op.unary o x):=by unfold Op.unary Op.intArith Op.intBits;(repeat'(first|with_reducible(first|exact qm _|exact qp _)|((with_reducible refine rE ?_);exact trivial)|split))
theorem JW{r:Nat}{f:Option (aG×Nat)->Sem β}(h:∀t n,qO P (f (some (t,0)))\/f (some (t,n))=f (some (t,0)))(h':∀s,Plain P (f s)):Plain P (shape r>>=f):=by unfold Plain;exact⟨h,h'⟩
theorem Ip(a:Addr):Plain P (behindNumber a):=by unfold behindNumber;(repeat'(with_reducible first|exact qm _|exact JU _|(refine qo ?_ (λ_=>?_))))
theorem DD(a:Addr):Plain P (byteOf a):=by
 unfold byteOf;split
 ·(repeat'(with_reducible exact qm _))
 refine qo rH λp=>qo (O_ a) λ_=>JW (λ_ _=>.inr rfl) λs=>?_
 (repeat'(first|with_reducible(first|exact qm _|exact qp _|(refine qL ?_ ?_))|split))
theorem ZA(a:Addr)(c b:Nat):Plain P (partAt a c b):=by unfold partAt;(repeat'(with_reducible first|exact qm _|exact DD _|(refine qo ?_ (λ_=>?_))))
theorem GM(a:Addr)(f:Field):Plain P (fieldPlace a f):=by unfold fieldPlace;(repeat'(with_reducible first|exact qm _|exact ZA _ _ _|exact sK _|(refine qo ?_ (λ_=>?_))|(refine qL ?_ ?_)))
theorem WG(t:aG)(x:ai)(f:Nat):Plain P (Instr.fieldAt t x f):=by unfold Instr.fieldAt;(repeat'(first|with_reducible(first|exact qm _|exact qp _|exact GM _ _|exact qy _|exact yK _|(refine qo ?_ (λ_=>?_)))|split))
theorem yL(t:aG)(cs:aH)(o:Nat):Plain P (part t cs o):=by unfold part;(repeat'(first|with_reducible(first|exact qm _|exact qp _|exact sK _|exact Rw _|(refine qo ?_ (λ_=>?_))|(refine qL ?_ ?_))|split))
theorem abM(v:ai):Plain P (asAgg v):=by unfold asAgg;(repeat'(first|with_reducible(first|exact qm _|exact qp _)|split))
theorem abN(t:aG)(x:ai)(f:Nat):Plain P (Instr.field t x f):=by unfold Instr.field;(repeat'(first|with_reducible(first|exact qp _|exact qy _|exact yL _ _ _|exact abM _|(refine qo ?_ (λ_=>?_)))|split))
theorem abO(t:aG)(x i:ai):Plain P (Instr.index t x i):=by unfold Instr.index;(repeat'(first|with_reducible(first|exact qm _|exact qp _|exact qy _|exact yL _ _ _|exact sK _|exact BP _|exact AQ _ _ _ _|(refine qo ?_ (λ_=>?_))|(refine qL ?_ ?_))|split))
theorem Qp(t:aG)(n:Nat)(ps:Array (Nat×ai)):Plain P (Instr.buildSlice t n ps):=by unfold Instr.buildSlice;(repeat'(first|with_reducible(first|exact qm _|exact qp _)|((with_reducible refine rE ?_);exact trivial)|with_reducible(first|exact qy _|exact v_ _|exact sK _|exact Aw _ _|(refine qo ?_ (λ_=>?_))|(refine qL ?_ ?_))|split|(dsimp only)))
theorem agV(t:aG)(v:ai):Plain P (Instr.box t v):=by unfold Instr.box;(repeat'(with_reducible first|exact qm _|exact Au _ _|(refine qo ?_ (λ_=>?_))))
theorem Rx(v:ai):Plain P (Builtin.lenOf v):=by unfold Builtin.lenOf;(repeat'(first|with_reducible(first|exact qm _|exact qp _)|split))
theorem GN(a b:Nat)(v:ai):Plain P (Builtin.firstCells a b v):=by unfold Builtin.firstCells;(repeat'(first|with_reducible(first|exact qm _|exact qp _|exact C9 _ _)|split))
theorem adI(ts:Array aG)(t:aG)(auf:aH):Plain P (Builtin.copy_ ts t auf):=by unfold Builtin.copy_;(repeat'(first|with_reducible(first|exact qm _|exact qp _|exact qy _|exact Rx _|exact GN _ _ _|exact sK _|exact y9 _ _ _|(refine qo ?_ (λ_=>?_)))|split))
theorem agW(ts:Array aG)(t:aG)(auf:aH):Plain P (Builtin.len_ ts t auf):=by unfold Builtin.len_;(repeat'(first|with_reducible(first|exact qm _|exact qp _|exact qy _)|((with_reducible refine Ho ?_ ?_);(focus(exact Nv (λ_ _ _=>rfl) (λ_ _=>rfl)));(intro _))|with_reducible(refine qo ?_ (λ_=>?_))|split))
theorem agX(ts:Array aG)(t:aG)(auf:aH):Plain P (Builtin.cap_ ts t auf):=by unfold Builtin.cap_;(repeat'(first|with_reducible(first|exact qm _|exact qp _|exact qy _)|((with_reducible refine Ho ?_ ?_);(focus(exact Nv (λ_ _ _=>rfl) (λ_ _=>rfl)));(intro _))|with_reducible(refine qo ?_ (λ_=>?_))|split))
end
end Go.Lf
namespace Go.Lf
def vY(P:aP){α:Type}:Sem α->Prop
 | .pure _=>True
 | .load m _ k=>m=.plain/\∀v,vY P (k v)
 | .store m _ _ k=>m=.plain/\vY P k
 | .new o k=>xy o/\∀r,vY P (k r)
 | .shape _ k=>∀s,vY P (k s)
 | .freeze _ _ _=>False
 | .frozen _ k=>∀b,vY P (k b)
 | .getObj _ k=>(∀o o',O8 o o'->k o=k o')/\∀o,vY P (k o)
 | .setObj _ _ _=>False
 | .choose _ k=>∀n,vY P (k n)
 | .sys _ _=>False
 | .program k=>vY P (k P)
 | .mark m k=>adH m/\vY P k
 | .halt h=>F5 h
section
variable {P:aP}{α β:Type}
theorem vY.bind:∀(s:Sem α)(f:α->Sem β),vY P s->(∀a,vY P (f a))->vY P (s.bind f)
 | .pure a,_,_,h=>h a
 | .load _ _ k,f,h,h'=>⟨h.1,λv=>vY.bind (k v) f (h.2 v) h'⟩
 | .store _ _ _ k,f,h,h'=>⟨h.1,vY.bind k f h.2 h'⟩
 | .new _ k,f,h,h'=>⟨h.1,λv=>vY.bind (k v) f (h.2 v) h'⟩
 | .shape _ k,f,h,h'=>λv=>vY.bind (k v) f (h v) h'
 | .freeze _ _ _,_,h,_=>h.elim
 | .frozen _ k,f,h,h'=>λv=>vY.bind (k v) f (h v) h'
 | .getObj _ k,f,h,h'=>⟨λo o' g=>bI (λs=>Sem.bind s f) (h.1 o o' g),λv=>vY.bind (k v) f (h.2 v) h'⟩
 | .setObj _ _ _,_,h,_=>h.elim
 | .choose _ k,f,h,h'=>λv=>vY.bind (k v) f (h v) h'
 | .sys _ _,_,h,_=>h.elim
 | .program k,f,h,h'=>vY.bind (k P) f h h'
 | .mark _ k,f,h,h'=>⟨h.1,vY.bind k f h.2 h'⟩
 | .halt _,_,h,_=>h
theorem vY.WH:∀(s:Sem α)(f:α->Sem β),vY P s->(∀a,qO P (f a))->(∀a,Plain P (f a))->Plain P (s.bind f)
 | .pure a,_,_,_,h=>h a
 | .load _ _ k,f,h,hd,h'=>⟨h.1,λv=>vY.WH (k v) f (h.2 v) hd h'⟩
 | .store _ _ _ k,f,h,hd,h'=>⟨h.1,vY.WH k f h.2 hd h'⟩
 | .new _ k,f,h,hd,h'=>⟨h.1,λv=>vY.WH (k v) f (h.2 v) hd h'⟩
 | .shape _ k,f,h,hd,h'=>⟨λ_ _=>.inl (qO.late _ f hd),λv=>vY.WH (k v) f (h v) hd h'⟩
 | .freeze _ _ _,_,h,_,_=>h.elim
 | .frozen _ k,f,h,hd,h'=>λv=>vY.WH (k v) f (h v) hd h'
 | .getObj _ k,f,h,hd,h'=>⟨λo o' g=>.inl (bI (λs=>Sem.bind s f) (h.1 o o' g)),λv=>vY.WH (k v) f (h.2 v) hd h'⟩
 | .setObj _ _ _,_,h,_,_=>h.elim
 | .choose _ k,f,h,hd,h'=>λv=>vY.WH (k v) f (h v) hd h'
 | .sys _ _,_,h,_,_=>h.elim
 | .program k,f,h,hd,h'=>vY.WH (k P) f h hd h'
 | .mark _ k,f,h,hd,h'=>⟨h.1,vY.WH k f h.2 hd h'⟩
 | .halt _,_,h,_,_=>h
theorem X0(a:α):vY P (pure a:Sem α):=trivial
theorem X5{s:Sem α}{f:α->Sem β}(h:vY P s)(h':∀a,vY P (f a)):vY P (s>>=f):=vY.bind s f h h'
theorem adJ(r:Nat):vY P (shape r):=λ_=>trivial
theorem abP(a:Addr):vY P (frozen a):=λ_=>trivial
theorem NK(u:Unsupported):qO P (unsupported u:Sem α):=trivial
theorem abQ{s:Sem α}{f:α->Sem β}(h:∀a,qO P (f a)):qO P (s>>=f):=qO.late s f h
theorem adK{s:Sem α}{f:α->Sem β}(h:vY P s)(hd:∀a,qO P (f a))(h':∀a,Plain P (f a)):Plain P (s>>=f):=vY.WH s f h hd h'
theorem adL:Plain P (mark .noRoom):=⟨.inl rfl,trivial⟩
theorem Cf{t:aG}{d:TypeDesc}(h:P.underlying t=some d){f:TypeDesc->Sem β}(hf:Plain P (f d)):Plain P (underlying t>>=f):=by show Plain P ((match P.underlying t with|some d=>pure d|none=>stuck "no such type" :Sem TypeDesc).bind f);rw[h];exact hf
end
attribute [local irreducible] Plain vY
section
variable {P:aP}{α β:Type}
theorem adM(a:Addr)(n:Nat):vY P (Builtin.holdsCells a n):=by unfold Builtin.holdsCells;exact X5 (adJ _) λs=>by split<;>exact X0 _
theorem WI(a b c:Nat)(o:aW)(x:ai):vY P (Builtin.mayShare a b c o x):=by
 unfold Builtin.mayShare;dsimp only
 repeat'(first|with_reducible exact X0 _|with_reducible exact adM _ _|with_reducible exact abP _|with_reducible refine X5 ?_ (λ_=>?_)|split|dsimp only)
theorem ZB(ts:Array aG)(t:aG)(auf:aH):Plain P (Builtin.append_ ts t auf):=by
 have aqW:∀{γ:Type}(sz sLen n:Nat)(base:aW)(x:ai),Plain P (Builtin.mayShare sz sLen n base x>>=λb=>if(!b)=true then(mark .noRoom>>=λ_=>(unsupported (.resourceLimit "append: a slice or a string whose bytes no memory bears"):Sem γ))else unsupported (.resourceLimit "append: a slice or a string whose bytes no memory bears")):=λsz sLen n base x=>by
  refine adK (WI _ _ _ _ _) (λa=>?_) (λa=>?_)
  .split
   .exact abQ λ_=>NK _
   .exact NK _
  ·(repeat'(first|((with_reducible refine rE ?_);exact trivial)|with_reducible(first|exact adL|(refine qo ?_ (λ_=>?_))|(refine qL ?_ ?_))))
 unfold Builtin.append_
 (repeat'(first|with_reducible(first|exact qm _|exact qp _|exact u_ _|exact Nu _|exact qy _|exact sK _|exact JV _|exact rD _|exact qW _|exact Rx _|exact GN _ _ _|exact v_ _|exact y9 _ _ _|exact Aw _ _|exact aqW _ _ _ _ _|(refine qo ?_ (λ_=>?_))|(refine qL ?_ ?_))|split))
theorem abR(op:BinOp)(k:IntKind)(x:Int)(yk:IntKind)(y:Int):Plain P (Op.shift op k x yk y):=by unfold Op.shift;(repeat'(first|with_reducible(first|exact qm _|exact qp _|exact qW _|(refine qL ?_ ?_))|split))
theorem Vp(op:BinOp)(k:IntKind)(x y:Int):Plain P (Op.intArith op k x y):=by unfold Op.intArith;(repeat'(first|with_reducible(first|exact qm _|exact qp _)|split))
theorem ZC(op:BinOp)(k:IntKind)(x y:Int):Plain P (Op.intDiv op k x y):=by unfold Op.intDiv;(repeat'(first|with_reducible(first|exact qm _|exact qp _|exact qW _|(refine qL ?_ ?_))|split))
theorem WJ(op:BinOp)(k:IntKind)(x y:Int):Plain P (Op.intBits op k x y):=by unfold Op.intBits;(repeat'(first|with_reducible(first|exact qm _|exact qp _)|split))
theorem ZE(op:BinOp)(x y:Int):Plain P (Op.intCmp op x y):=by unfold Op.intCmp;(repeat'(first|with_reducible(first|exact qm _|exact qp _)|split))
theorem GR(op:BinOp)(k:FloatKind)(x y:Nat):Plain P (Op.floatArith op k x y):=by unfold Op.floatArith;(repeat'(first|with_reducible(first|exact qm _|exact qp _|exact u_ _|(refine qo ?_ (λ_=>?_)))|split|(dsimp only)))
theorem JX(op:BinOp)(k:FloatKind)(x y:Nat):Plain P (Op.floatCmp op k x y):=by unfold Op.floatCmp;(repeat'(first|with_reducible(first|exact qm _|exact qp _)|split))
theorem EF(op:BinOp)(x y:ByteArray):Plain P (Op.stringOp op x y):=by unfold Op.stringOp;(repeat'(first|with_reducible(first|exact qm _|exact qp _)|((with_reducible refine rE ?_);exact trivial)|with_reducible(refine qL ?_ ?_)|split))
theorem agY(a:FloatKind)(b:Nat)(c:FloatKind):Plain P (Conv.floatToFloat a b c):=by unfold Conv.floatToFloat;(repeat'(first|with_reducible(first|exact qm _|exact u_ _|(refine qo ?_ (λ_=>?_))|(refine qL ?_ ?_))|split))
theorem DF(op:BinOp)(k:FloatKind)(x y:Nat):Plain P (Op.Complex.arith op k x y):=by unfold Op.Complex.arith;(repeat'(first|with_reducible(first|exact qm _|exact qp _|exact GR _ _ _ _|(refine qo ?_ (λ_=>?_)))|split))
theorem Vq(op:BinOp)(k:FloatKind)(x y:Nat):Plain P (Op.Complex.cmp op k x y):=by unfold Op.Complex.cmp;(repeat'(with_reducible first|exact JX _ _ _ _|exact Dz _|(refine qo ?_ (λ_=>?_))))
theorem abS(a:FloatKind)(b:Nat)(c:FloatKind):Plain P (Op.Complex.conv a b c):=by unfold Op.Complex.conv;(repeat'(first|with_reducible(first|exact qm _|exact qp _|exact agY _ _ _|(refine qo ?_ (λ_=>?_))|(refine qL ?_ ?_))|split))
theorem abT(a b c d:Nat):Plain P (Op.Complex.product a b c d):=by unfold Op.Complex.product Op.Complex.add Op.Complex.sub Op.Complex.mul;(repeat'(with_reducible first|exact qm _|exact DF _ _ _ _|(refine qo ?_ (λ_=>?_))))
theorem abU(s a b c d:Nat):Plain P (Op.Complex.corrected s a b c d):=by unfold Op.Complex.corrected Op.Complex.add Op.Complex.sub Op.Complex.mul;(repeat'(with_reducible first|exact qm _|exact DF _ _ _ _|(refine qo ?_ (λ_=>?_))))
theorem abV(a b c d:Nat):Plain P (Op.Complex.quotient a b c d):=by unfold Op.Complex.quotient Op.Complex.add Op.Complex.sub Op.Complex.mul Op.Complex.quo;(repeat'(with_reducible first|exact qm _|exact DF _ _ _ _|exact Vq _ _ _ _|exact abU _ _ _ _ _|(refine qo ?_ (λ_=>?_))|(refine qL ?_ ?_)))
theorem WL(op:BinOp)(k:FloatKind)(a b c d:Nat):Plain P (Op.complexOp op k a b c d):=by unfold Op.complexOp;(repeat'(first|with_reducible(first|exact qm _|exact qp _|exact DF _ _ _ _|exact Vq _ _ _ _|exact abS _ _ _|exact abT _ _ _ _|exact abV _ _ _ _|(refine qo ?_ (λ_=>?_))|(refine qL ?_ ?_))|split))
theorem abW(p:aP)(d:Nat)(e:aG)(off:Nat)(b:Int):cellAtBytes p d e 0 off b=none:=by
 unfold cellAtBytes;dsimp only;split
 .rfl
 .cases byteOfCell p d e (off%p.cellsOf e)with
  |none=>rfl
  |some here=>
   simp only[fO,oJ,gX];rw[ax]
   .rfl
   .rw[lZ,decide_eq_true_iff,decide_eq_true_iff];have:∀z:Int,z<0\/z≥Int.ofNat 0:=λz=>by have:Int.ofNat 0=0:=rfl;omega
    exact this _
theorem IX(t:aG)(x y:ai):Plain P (Builtin.unsafeAdd_ #[] t #[x,y]):=by
 have hd:∀(a:Addr)(n:Int)(e:aG),qO P (program>>=λp=>match cellAtBytes p p.depth e (0/p.cellsOf e) a.off n with
    |some off=>(pure (.pointer (some {a with off})):Sem ai)
    |none=>unsupported (.unsafePointer "Add")):=λa n e=>by
  show qO P (match cellAtBytes P P.depth e (0/P.cellsOf e) a.off n with
    |some off=>(pure (.pointer (some {a with off})):Sem ai)
    |none=>unsupported (.unsafePointer "Add"))
  rw[Nat.zero_div,abW];exact NK _
 unfold Builtin.unsafeAdd_;cases x with
 |pointer ptr=>
  dsimp only;refine qo (JV _) λn=>?_
  cases ptr with
  |none=>(repeat'(first|((with_reducible refine rE ?_);exact trivial)|with_reducible(first|(refine qo ?_ (λ_=>?_))|(refine qL ?_ ?_))))
  |some a=>
   have key:Plain P (shape a.block>>=λs=>match s with
     |some (e,cells)=>(program>>=λp=>match cellAtBytes p p.depth e (cells/p.cellsOf e) a.off n with
      |some off=>(pure (.pointer (some {a with off})):Sem ai)
      |none=>unsupported (.unsafePointer "Add"))
     |_=>unsupported (.unsafePointer "Add")):=by
    refine JW (λt m=>.inl (hd a n t)) λs=>by(repeat'(first|with_reducible exact qm _|((with_reducible refine rE ?_);exact trivial)|with_reducible(first|exact rH|(refine qo ?_ (λ_=>?_)))|split))
   refine qL ?_ ?_
   .exact Vm (λ_=>trivial) (λ_=>qo (rE trivial) λ_=>qm _) (qm _)
   .refine qL ?_ ?_
    .exact qo (rE trivial) λ_=>key
    .exact key
 |_=>exact qp _
theorem IY(a b:Addr):Plain P (Op.twoPlaces a b):=by unfold Op.twoPlaces;(repeat'(first|with_reducible exact qm _|((with_reducible refine rE ?_);exact trivial)|with_reducible(first|exact rH|exact DD _|(refine qo ?_ (λ_=>?_))|(refine qL ?_ ?_))))
theorem WM(k:IntKind)(a b:Addr):Plain P (Op.addrSub k a b):=by unfold Op.addrSub;(repeat'(with_reducible first|exact qm _|exact IY _ _|(refine qo ?_ (λ_=>?_))))
theorem WN(op:BinOp)(a b:Addr):Plain P (Op.addrCmp op a b):=by unfold Op.addrCmp;(repeat'(first|with_reducible exact qm _|((with_reducible refine rE ?_);exact trivial)|with_reducible(first|exact IY _ _|(refine qo ?_ (λ_=>?_)))|split))
theorem WO(k:IntKind)(a:Addr)(n:Int):Plain P (Op.addrMod k a n):=by unfold Op.addrMod;exact JW (λ_ _=>.inr rfl) λs=>by(repeat'(first|with_reducible exact qm _|((with_reducible refine rE ?_);exact trivial)|with_reducible(first|exact rD _|exact DD _|(refine qo ?_ (λ_=>?_))|(refine qL ?_ ?_))|split))
theorem Vr(a:Addr)(l:Bool):Plain P (asNumber a l):=by unfold asNumber;exact qo (K_ (o:=.number a l) trivial) λ_=>qm _
theorem Pe(t:aG)(x y:ai):Plain P (movedNumber t x y):=by unfold movedNumber;(repeat'(first|with_reducible exact qm _|((with_reducible refine rE ?_);exact trivial)|with_reducible(first|exact qy _|exact IX _ _ _|exact Ip _|exact Vr _ _|(refine qo ?_ (λ_=>?_))|(refine qL ?_ ?_))|split))
theorem NL(t:aG)(x y:ai):Plain P (movedPointer t x y):=by unfold movedPointer;(repeat'(first|((with_reducible refine rE ?_);exact trivial)|with_reducible(first|exact JU _|exact IX _ _ _|(refine qo ?_ (λ_=>?_))|(refine qL ?_ ?_))|split))

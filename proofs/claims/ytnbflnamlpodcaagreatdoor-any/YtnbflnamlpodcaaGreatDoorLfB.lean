import Derived.Test.YtnbflnamlpodcaaGreatDoorAa
namespace Go.Lf
def uT:Obj->Prop
 | .view a _=>a.spot.isSome=true
 | .pending ..=>False
 |_=>True
def J9(o o':Obj):Prop:=
 (∃a t,o=.view a t/\o'=.view ⟨0,0,some default⟩ t)\/(∃c t,o=.pending c t/\o'=.stringIter .empty 0)
theorem J9.nv{o o':Obj}(h:J9 o o'):uT o':=by
 rcases h with⟨a,t,_,rfl⟩|⟨c,t,_,rfl⟩
 .rfl
 .trivial
def Dq:Halt->Prop
 | .panic _=>True
 | .stuck _=>True
 | .unsupported (.initOrder _)=>False
 | .unsupported _=>True
 |_=>False
def qJ(P:Program){α:Type}:Sem α->Prop
 | .pure _=>False
 | .load _ _ k=>∀v,qJ P (k v)
 | .store _ _ _ k=>qJ P k
 | .new _ k=>∀r,qJ P (k r)
 | .shape _ k=>∀s,qJ P (k s)
 | .freeze _ _ k=>qJ P k
 | .frozen _ k=>∀b,qJ P (k b)
 | .getObj _ k=>∀o,qJ P (k o)
 | .setObj _ _ k=>qJ P k
 | .choose _ k=>∀n,qJ P (k n)
 | .sys _ k=>∀r,qJ P (k r)
 | .program k=>qJ P (k P)
 | .mark _ k=>qJ P k
 | .halt _=>True
def ZR(m:Mark):Prop:=m=.noRoom\/∃f,m=.extern f
def Plain(P:Program){α:Type}:Sem α->Prop
 | .pure _=>True
 | .load m _ k=>m=.plain/\∀v,Plain P (k v)
 | .store m _ _ k=>m=.plain/\Plain P k
 | .new o k=>uT o/\∀r,Plain P (k r)
 | .shape _ k=>(∀t n,qJ P (k (some (t,0)))\/k (some (t,n))=k (some (t,0)))/\∀s,Plain P (k s)
 | .freeze _ _ _=>False
 | .frozen _ k=>∀b,Plain P (k b)
 | .getObj _ k=>(∀o o',J9 o o'->k o=k o'\/qJ P (k o'))/\∀o,Plain P (k o)
 | .setObj _ _ _=>False
 | .choose _ k=>∀n,Plain P (k n)
 | .sys _ _=>False
 | .program k=>Plain P (k P)
 | .mark m k=>ZR m/\Plain P k
 | .halt h=>Dq h
section
variable {P:Program}{α β:Type}
theorem qJ.bind:∀(s:Sem α)(f:α->Sem β),qJ P s->qJ P (s.bind f)
 | .pure _,_,h=>h.elim
 | .load _ _ k,f,h=>λv=>qJ.bind (k v) f (h v)
 | .store _ _ _ k,f,h=>qJ.bind k f h
 | .new _ k,f,h=>λv=>qJ.bind (k v) f (h v)
 | .shape _ k,f,h=>λv=>qJ.bind (k v) f (h v)
 | .freeze _ _ k,f,h=>qJ.bind k f h
 | .frozen _ k,f,h=>λv=>qJ.bind (k v) f (h v)
 | .getObj _ k,f,h=>λv=>qJ.bind (k v) f (h v)
 | .setObj _ _ k,f,h=>qJ.bind k f h
 | .choose _ k,f,h=>λv=>qJ.bind (k v) f (h v)
 | .sys _ k,f,h=>λv=>qJ.bind (k v) f (h v)
 | .program k,f,h=>qJ.bind (k P) f h
 | .mark _ k,f,h=>qJ.bind k f h
 | .halt _,_,_=>trivial
theorem qJ.late:∀(s:Sem α)(f:α->Sem β),(∀a,qJ P (f a))->qJ P (s.bind f)
 | .pure a,_,h=>h a
 | .load _ _ k,f,h=>λv=>qJ.late (k v) f h
 | .store _ _ _ k,f,h=>qJ.late k f h
 | .new _ k,f,h=>λv=>qJ.late (k v) f h
 | .shape _ k,f,h=>λv=>qJ.late (k v) f h
 | .freeze _ _ k,f,h=>qJ.late k f h
 | .frozen _ k,f,h=>λv=>qJ.late (k v) f h
 | .getObj _ k,f,h=>λv=>qJ.late (k v) f h
 | .setObj _ _ k,f,h=>qJ.late k f h
 | .choose _ k,f,h=>λv=>qJ.late (k v) f h
 | .sys _ k,f,h=>λv=>qJ.late (k v) f h
 | .program k,f,h=>qJ.late (k P) f h
 | .mark _ k,f,h=>qJ.late k f h
 | .halt _,_,_=>trivial
theorem Plain.bind:∀(s:Sem α)(f:α->Sem β),Plain P s->(∀a,Plain P (f a))->Plain P (s.bind f)
 | .pure a,_,_,h=>h a
 | .load _ _ k,f,h,h'=>⟨h.1,λv=>Plain.bind (k v) f (h.2 v) h'⟩
 | .store _ _ _ k,f,h,h'=>⟨h.1,Plain.bind k f h.2 h'⟩
 | .new _ k,f,h,h'=>⟨h.1,λv=>Plain.bind (k v) f (h.2 v) h'⟩
 | .shape _ k,f,h,h'=>⟨λt n=>(h.1 t n).imp (qJ.bind _ f) (λe=>aP (λs=>Sem.bind s f) e),λv=>Plain.bind (k v) f (h.2 v) h'⟩
 | .freeze _ _ _,_,h,_=>h.elim
 | .frozen _ k,f,h,h'=>λv=>Plain.bind (k v) f (h v) h'
 | .getObj _ k,f,h,h'=>⟨λo o' g=>(h.1 o o' g).imp (λe=>aP (λs=>Sem.bind s f) e) (qJ.bind _ f),λv=>Plain.bind (k v) f (h.2 v) h'⟩
 | .setObj _ _ _,_,h,_=>h.elim
 | .choose _ k,f,h,h'=>λv=>Plain.bind (k v) f (h v) h'
 | .sys _ _,_,h,_=>h.elim
 | .program k,f,h,h'=>Plain.bind (k P) f h h'
 | .mark _ k,f,h,h'=>⟨h.1,Plain.bind k f h.2 h'⟩
 | .halt _,_,h,_=>h
theorem rC:∀(s:Sem α),qJ P s->∀(w:World)(es:Array Event),∃h w' es',s.runT P w es=(.halt h w',es')
 | .pure _,h,_,_=>h.elim
 | .load m a k,h,w,es=>by
   unfold Sem.runT;cases w.cell? a with
   |some v=>exact rC (k v) (h v) _ _
   |none=>
    dsimp only;cases w.farLoad P a (m==.atomic)with
    |ok r=>exact rC (k r.1) (h r.1) _ _
    |error e=>exact⟨_,_,_,rfl⟩
 | .store m a v k,h,w,es=>by
   cases v<;>first
    |exact⟨_,_,_,rfl⟩
    |(unfold Sem.runT
      cases w.cell? a with
      |some u=>
       dsimp only;split
       .exact⟨_,_,_,rfl⟩
       .exact rC k h _ _
      |none=>
       dsimp only;cases w.farStore P a _ (m==.atomic)with
       |ok r=>exact rC k h _ _
       |error e=>exact⟨_,_,_,rfl⟩)
 | .new o k,h,w,es=>rC (k w.heap.size) (h _) _ es
 | .shape r k,h,w,es=>rC (k (w.shape? r)) (h _) w es
 | .freeze a n k,h,w,es=>rC k h (w.freeze a n) es
 | .frozen a k,h,w,es=>rC (k (w.frozen? a)) (h _) w es
 | .getObj r k,h,w,es=>by
   unfold Sem.runT;split
   .exact⟨_,_,_,rfl⟩
   .exact rC (k _) (h _) _ _
   .exact⟨_,_,_,rfl⟩
 | .setObj r o k,h,w,es=>by
   unfold Sem.runT;split
   .exact⟨_,_,_,rfl⟩
   .exact rC k h _ _
   .exact⟨_,_,_,rfl⟩
 | .choose q k,h,w,es=>by
   unfold Sem.runT;split
   .exact rC (k 0) (h _) _ _
   .exact rC (k _) (h _) _ _
 | .sys c k,h,w,es=>rC (k (w.sys c).1) (h _) (w.sys c).2 _
 | .program k,h,w,es=>rC (k P) h w es
 | .mark m k,h,w,es=>rC k h w _
 | .halt x,_,w,es=>⟨x,w,es,rfl⟩
end
structure vY(X:Nat->Prop)(Y:Nat->Option Obj)(w v:World):Prop where
 size:w.heap.size=v.heap.size
 bound:∀b,X b\/(Y b).isSome=true->b<v.heap.size
 same:∀b,¬X b->Y b=none->w.heap[b]?=v.heap[b]?
 gho:∀b o,Y b=some o->∃o',w.heap[b]?=some o/\v.heap[b]?=some o'/\J9 o o'
 doc:∀b,X b->∃cs t fr,w.heap[b]?=some (.cells cs t fr)/\v.heap[b]?=some (.cells #[] t fr)
 nv:∀(b:Nat)(o:Obj),v.heap[b]?=some o->uT o
 os:w.os=v.os
 out:w.output=v.output
 str:∀i q,w.tape (w.drawn+i) q=v.tape (v.drawn+i) q
 unf:∀b cs t fr,X b->v.heap[b]?=some (.cells cs t fr)->fr=(0,0)
def EvP(X:Nat->Prop)(w:World)(e:Event):Prop:=
 (∃a wr,e=⟨.cell a,wr,false⟩/\a.block<w.heap.size/\¬X a.block)\/(∃r wr sy,e=⟨.obj r,wr,sy⟩/\r<w.heap.size/\¬X r)\/∃m,ZR m/\e=⟨.mark m,false,true⟩
section
variable {X:Nat->Prop}{Y:Nat->Option Obj}{w v:World}
theorem EvP.grow{w':World}{e:Event}(h:EvP X w e)(hs:w.heap.size<=w'.heap.size):EvP X w' e:=by
 rcases h with⟨a,wr,h1,h2,h3⟩|⟨r,wr,sy,h1,h2,h3⟩|h
 .exact .inl ⟨a,wr,h1,ae,h3⟩
 .exact .inr (.inl ⟨r,wr,sy,h1,ae,h3⟩)
 .exact .inr (.inr h)
theorem vY.ab3(h:vY X Y w v){a:Addr}{u:Value}(hc:v.cell? a=some u):¬X a.block/\Y a.block=none/\a.block<v.heap.size:=by
 unfold World.cell? at hc;refine⟨λhx=>?_,?_,?_⟩
 .obtain⟨cs,t,fr,_,h2⟩:=h.doc _ hx;rw[h2]at hc;dsimp only at hc;split at hc<;>simp at hc
 .cases hy:Y a.block with
  |none=>rfl
  |some o=>
   obtain⟨o',_,h2,hg⟩:=h.gho _ _ hy;rw[h2]at hc;rcases hg with⟨b,t,_,rfl⟩|⟨c,t,_,rfl⟩<;>cases hc
 .cases hb:v.heap[a.block]? with
  |none=>rw[hb]at hc;simp at hc
  |some o=>exact(a_.1 hb).1
theorem vY.cell(h:vY X Y w v){a:Addr}(hx:¬X a.block)(hy:Y a.block=none):w.cell? a=v.cell? a:=by unfold World.cell?;rw[h.same _ hx hy]
theorem vY.frozen(h:vY X Y w v)(a:Addr):w.frozen? a=v.frozen? a:=by
 unfold World.frozen?;by_cases hx:X a.block
 .obtain⟨cs,t,fr,h1,h2⟩:=h.doc _ hx;rw[h1,h2]
 .cases hy:Y a.block with
  |some o=>
   obtain⟨o',h1,h2,hg⟩:=h.gho _ _ hy;rw[h1,h2];rcases hg with⟨b,t,rfl,rfl⟩|⟨c,t,rfl,rfl⟩<;>rfl
  |none=>rw[h.same _ hx hy]
theorem TV{P:Program}{v:World}{b:Addr}(hb:b.spot.isSome=true)(t:TypeId)(a:Addr)(m:Bool):∃e,v.seen P b t a m=.error e:=by unfold World.seen;rw[hb,Bool.or_true];exact⟨_,rfl⟩
theorem IB{P:Program}{v:World}{b:Addr}(hb:b.spot.isSome=true)(t:TypeId)(a:Addr)(m:Bool):∃e,v.viewLoad P b t a m=.error e:=by obtain⟨e,he⟩:=TV (P:=P) (v:=v) hb t a m;unfold World.viewLoad;exact aqm
theorem GI{P:Program}{v:World}{b:Addr}(hb:b.spot.isSome=true)(t:TypeId)(a:Addr)(u:Value)(m:Bool):∃e,v.viewStore P b t a u m=.error e:=by
 obtain⟨e,he⟩:=TV (P:=P) (v:=v) hb t a m;unfold World.viewStore;cases tight P P.depth t with
 |false=>exact⟨_,rfl⟩
 |true=>
  exact aqm
theorem J_{P:Program}(hn:∀(b:Nat)(o:Obj),v.heap[b]?=some o->uT o)(a:Addr)(m:Bool):∃e,v.farLoad P a m=.error e:=by
 unfold World.farLoad;split
 .rename_i h;obtain⟨e,he⟩:=IB (P:=P) (v:=v) (hn _ _ h) _ a m;exact aqm
 .exact⟨_,rfl⟩
theorem IC{P:Program}(hn:∀(b:Nat)(o:Obj),v.heap[b]?=some o->uT o)(a:Addr)(u:Value)(m:Bool):∃e,v.farStore P a u m=.error e:=by
 unfold World.farStore;split
 .rename_i h;obtain⟨e,he⟩:=GI (P:=P) (v:=v) (hn _ _ h) _ a u m;exact aqm
 .exact⟨_,rfl⟩
theorem vY.modify(h:vY X Y w v)(b:Nat)(f:Obj->Obj)(hf:∀o,uT o->uT (f o))(hg:∀o o',J9 o o'->f o=o/\f o'=o')(hc:¬X b):
  vY X Y {w with heap:=w.heap.modify b f} {v with heap:=v.heap.modify b f}:=by
 refine⟨jr,λx hx=>by simpa using h.bound x hx,λx hx hy=>?_,λx o hy=>?_,λx hx=>?_,λx o hx=>?_,h.os,h.out,h.str,λx cs t fr hx hb=>?_⟩
 .simp only[gB,h.same x hx hy]
 .obtain⟨o',h1,h2,h3⟩:=h.gho x o hy;refine⟨o',?_,?_,h3⟩
  .simp only[gB,h1];split<;>simp[(hg o o' h3).1]
  .simp only[gB,h2];split<;>simp[(hg o o' h3).2]
 .obtain⟨cs,t,fr,h1,h2⟩:=h.doc x hx;simp only[gB,h1,h2];by_cases hb:b=x
  .subst hb;exact absurd hx hc
  .simp only[ah hb];exact⟨cs,t,fr,rfl,rfl⟩
 .simp only[gB]at hx;by_cases hb:b=x
  .subst hb;simp only[aF,bU]at hx;obtain⟨o',h1,rfl⟩:=hx;exact hf o' (h.nv _ _ h1)
  .rw[ah hb]at hx;exact h.nv _ _ hx
 .simp only[gB]at hb;by_cases hbx:b=x
  .subst hbx;exact absurd hx hc
  .rw[ah hbx]at hb;exact h.unf x cs t fr hx hb
theorem vY.setCell(h:vY X Y w v){a:Addr}(hx:¬X a.block)(u:Value):vY X Y (w.setCell a u) (v.setCell a u):=
 h.modify a.block _ (λo ho=>by cases o<;>first|exact ho|trivial) (λo o' hg=>by rcases hg with⟨b,t,rfl,rfl⟩|⟨c,t,rfl,rfl⟩<;>exact⟨rfl,rfl⟩) hx
theorem vY.push(h:vY X Y w v){o:Obj}(ho:uT o):vY X Y {w with heap:=w.heap.push o} {v with heap:=v.heap.push o}:=by
 refine⟨jr,λb hb=>by have:=h.bound b hb;simp;omega,λb hb hy=>?_,λb o hy=>?_,λb hb=>?_,λb o' hb=>?_,h.os,h.out,h.str,λb cs t fr hx hb=>?_⟩
 .simp only[gz,h.size,h.same b hb hy]
 .rename_i oo;obtain⟨o2,h1,h2,h3⟩:=h.gho b _ hy;have hlt:=h.bound b (.inr (by rw[hy];rfl));refine⟨o2,?_,?_,h3⟩
  .rw[gz,ah pg];exact h1
  .rw[gz,ah ae];exact h2
 .obtain⟨cs,t,fr,h1,h2⟩:=h.doc b hb;have hlt:=h.bound b (.inl hb);refine⟨cs,t,fr,?_,?_⟩
  .rw[gz,ah pg];exact h1
  .rw[gz,ah ae];exact h2
 .simp only[gz]at hb;split at hb
  .cases hb;exact ho
  .exact h.nv b o' hb
 .have hlt:=h.bound b (.inl hx);simp only[gz]at hb;rw[ah ae]at hb;exact h.unf b cs t fr hx hb
theorem vY.draw(h:vY X Y w v):vY X Y {w with drawn:=w.drawn+1} {v with drawn:=v.drawn+1}:=
 ⟨h.size,h.bound,h.same,h.gho,h.doc,h.nv,h.os,h.out,λi q=>by have:=h.str (i+1) q;simpa[dB,lV 1 i]using this,h.unf⟩
end
theorem uA{P:Program}{X:Nat->Prop}{Y:Nat->Option Obj}{α:Type}:∀(s:Sem α)(w v:World)(es:Array Event)(x:α)(v':World)(es':Array Event),Plain P s->vY X Y w v->s.runT P v es=(.ok x v',es')->
  ∃w',s.runT P w es=(.ok x w',es')/\vY X Y w' v'/\v.heap.size<=v'.heap.size/\∀e∈es',e∈es\/EvP X w' e
 | .pure a,w,v,es,x,v',es',_,h,hr=>by simp only[Sem.runT,lQ,Result.ok.injEq]at hr;obtain⟨⟨rfl,rfl⟩,rfl⟩:=hr;exact⟨w,rfl,h,ak _,λe he=>.inl he⟩
 | .load m a k,w,v,es,x,v',es',hp,h,hr=>by
   obtain⟨rfl,hp⟩:=hp;cases hc:v.cell? a with
   |none=>
    obtain⟨e,he⟩:=J_ (P:=P) h.nv a (Mode.plain==Mode.atomic);simp only[Sem.runT,hc,he]at hr;cases hr
   |some u=>
    obtain⟨hx,hy,hlt⟩:=h.ab3 hc;simp only[Sem.runT,hc]at hr;obtain⟨w',h1,h2,h3,h4⟩:=uA (k u) w v _ x v' es' (hp u) h hr;refine⟨w',by simp only[Sem.runT,h.cell hx hy,hc];exact h1,h2,h3,λe he=>?_⟩;rcases h4 e he with h5|h5
    .rcases jI.1 h5 with h6|rfl
     .exact .inl h6
     .exact .inr (.inl ⟨a,false,rfl,by rw[h2.size];omega,hx⟩)
    .exact .inr h5
 | .store m a u k,w,v,es,x,v',es',hp,h,hr=>by
   obtain⟨rfl,hp⟩:=hp
   have key:(∀(w:World),(Sem.store Mode.plain a u k).runT P w es=match w.cell? a with
     |some _=>if w.frozen? a then(.halt (.unsupported (.unsafePointer "a write to bytes that a string shares")) w,es)else k.runT P (w.setCell a u) (es.push ⟨.cell a,true,Mode.plain==Mode.atomic⟩)
     |none=>match w.farStore P a u (Mode.plain==Mode.atomic)with
      | .ok (w,touched)=>k.runT P w (es++touched.toArray.map (⟨.cell ·,true,Mode.plain==Mode.atomic⟩))
      | .error h=>(.halt h w,es))\/(∀(w:World),(Sem.store Mode.plain a u k).runT P w es=(.halt (.stuck "store: not the value of one cell") w,es)):=by
    exact aqw
   rcases key with key|key
   .rw[key]at hr;cases hc:v.cell? a with
    |none=>
     obtain⟨e,he⟩:=IC (P:=P) h.nv a u (Mode.plain==Mode.atomic);simp only[hc,he]at hr;cases hr
    |some u'=>
     obtain⟨hx,hy,hlt⟩:=h.ab3 hc;simp only[hc]at hr;cases hz:v.frozen? a with
     |true=>rw[hz]at hr;simp at hr
     |false=>
      rw[hz]at hr;simp only[bF,aU]at hr;obtain⟨w',h1,h2,h3,h4⟩:=uA k (w.setCell a u) (v.setCell a u) _ x v' es' hp (h.setCell hx u) hr;refine⟨w',by rw[key];simp only[h.cell hx hy,hc,h.frozen,hz,bF,aU];exact h1,h2,apd,λe he=>?_⟩;rcases h4 e he with h5|h5
      .rcases jI.1 h5 with h6|rfl
       .exact .inl h6
       .refine .inr (.inl ⟨a,true,rfl,?_,hx⟩);have:v.heap.size<=v'.heap.size:=apd;rw[h2.size];omega
      .exact .inr h5
   .rw[key]at hr;cases hr
 | .new o k,w,v,es,x,v',es',hp,h,hr=>by simp only[Sem.runT]at hr;obtain⟨w',h1,h2,h3,h4⟩:=uA (k v.heap.size) _ _ es x v' es' (hp.2 _) (h.push hp.1) hr;refine⟨w',by simp only[Sem.runT,h.size];exact h1,h2,?_,h4⟩;simp at h3;omega
 | .shape r k,w,v,es,x,v',es',hp,h,hr=>by
   simp only[Sem.runT]at hr;by_cases hx:X r
   .obtain⟨cs,t,fr,e1,e2⟩:=h.doc r hx;have s2:v.shape? r=some (t,0):=by simp[World.shape?,e2]
    have s1:w.shape? r=some (t,cs.size):=by simp[World.shape?,e1]
    rw[s2]at hr;rcases hp.1 t cs.size with hd|he
    .obtain⟨y,w',es'',hh⟩:=rC (k (some (t,0))) hd v es;rw[hh]at hr;cases hr
    .obtain⟨w',h1,h2,h3,h4⟩:=uA (k (some (t,0))) w v es x v' es' (hp.2 _) h hr;exact⟨w',by simp only[Sem.runT,s1,he];exact h1,h2,h3,h4⟩
   .have e:w.shape? r=v.shape? r:=by
     cases hy:Y r with
     |some o=>
      obtain⟨o',h1,h2,hg⟩:=h.gho _ _ hy;simp only[World.shape?,h1,h2];rcases hg with⟨b,t,rfl,rfl⟩|⟨c,t,rfl,rfl⟩<;>rfl
     |none=>simp only[World.shape?,h.same r hx hy]
    obtain⟨w',h1,h2,h3,h4⟩:=uA (k (v.shape? r)) w v es x v' es' (hp.2 _) h hr;exact⟨w',by simp only[Sem.runT,e];exact h1,h2,h3,h4⟩
 | .freeze a n k,_,_,_,_,_,_,hp,_,_=>hp.elim
 | .frozen a k,w,v,es,x,v',es',hp,h,hr=>by simp only[Sem.runT]at hr;obtain⟨w',h1,h2,h3,h4⟩:=uA (k (v.frozen? a)) w v es x v' es' (hp _) h hr;exact⟨w',by simp only[Sem.runT,h.frozen];exact h1,h2,h3,h4⟩
 | .getObj r k,w,v,es,x,v',es',hp,h,hr=>by
   by_cases hx:X r
   .obtain⟨cs,t,fr,_,e2⟩:=h.doc r hx;simp only[Sem.runT,e2]at hr;cases hr
   .rcases hy:Y r with _|o
    case some=>
     obtain⟨o',h1,h2,hg⟩:=h.gho r o hy;have hlt:=(a_.1 h2).1
     have ev:∀(u:World)(q:Obj),u.heap[r]?=some q->(∀c t fr,q≠.cells c t fr)->(Sem.getObj r k).runT P u es=(k q).runT P u (es.push ⟨.obj r,false,q.isChan⟩):=λu q hu hq=>by cases q<;>first|exact absurd rfl (hq _ _ _)|simp only[Sem.runT,hu]
     have n1:∀c t fr,o≠.cells c t fr:=by rcases hg with⟨b,t,rfl,rfl⟩|⟨c,t,rfl,rfl⟩<;>(intro _ _ _ hh;cases hh)
     have n2:∀c t fr,o'≠.cells c t fr:=by rcases hg with⟨b,t,rfl,rfl⟩|⟨c,t,rfl,rfl⟩<;>(intro _ _ _ hh;cases hh)
     rw[ev v o' h2 n2]at hr;rcases hp.1 o o' hg with he|hd
     .have hi:o.isChan=o'.isChan:=by rcases hg with⟨b,t,rfl,rfl⟩|⟨c,t,rfl,rfl⟩<;>rfl
      obtain⟨w',h3,h4,h5,h6⟩:=uA (k o') w v _ x v' es' (hp.2 _) h hr;refine⟨w',by rw[ev w o h1 n1,he,hi];exact h3,h4,h5,λe he=>?_⟩;rcases h6 e he with h7|h7
      .rcases jI.1 h7 with h8|rfl
       .exact .inl h8
       .exact .inr (.inr (.inl ⟨r,_,_,rfl,by rw[h4.size];omega,hx⟩))
      .exact .inr h7
     .obtain⟨y,w',es'',hh⟩:=rC (k o') hd v (es.push ⟨.obj r,false,o'.isChan⟩);rw[hh]at hr;cases hr
    have e:=h.same r hx hy;cases ho:v.heap[r]? with
    |none=>simp only[Sem.runT,ho]at hr;cases hr
    |some o=>
     have hlt:=(a_.1 ho).1;cases o with
     |cells c t fr=>simp only[Sem.runT,ho]at hr;cases hr
     |_=>
      simp only[Sem.runT,ho]at hr;obtain⟨w',h1,h2,h3,h4⟩:=uA (k _) w v _ x v' es' (hp.2 _) h hr;refine⟨w',by simp only[Sem.runT,e,ho];exact h1,h2,h3,λe he=>?_⟩;rcases h4 e he with h5|h5
      .rcases jI.1 h5 with h6|rfl
       .exact .inl h6
       .exact .inr (.inr (.inl ⟨r,_,_,rfl,by rw[h2.size];omega,hx⟩))
      .exact .inr h5
 | .setObj r o k,_,_,_,_,_,_,hp,_,_=>hp.elim
 | .choose q k,w,v,es,x,v',es',hp,h,hr=>by
   have e:w.tape w.drawn q=v.tape v.drawn q:=by simpa using h.str 0 q
   cases hq:q.forced with
   |true=>
    simp only[Sem.runT,hq,aF]at hr;obtain⟨w',h1,h2,h3,h4⟩:=uA (k 0) w v es x v' es' (hp _) h hr;exact⟨w',by simp only[Sem.runT,hq,aF];exact h1,h2,h3,h4⟩
   |false=>
    simp only[Sem.runT,hq,bF,aU]at hr;obtain⟨w',h1,h2,h3,h4⟩:=uA (k _) _ _ es x v' es' (hp _) h.draw hr;exact⟨w',by simp only[Sem.runT,hq,bF,aU,e];exact h1,h2,h3,h4⟩
 | .sys c k,_,_,_,_,_,_,hp,_,_=>hp.elim
 | .program k,w,v,es,x,v',es',hp,h,hr=>by simp only[Sem.runT]at hr;obtain⟨w',h1,h2,h3,h4⟩:=uA (k P) w v es x v' es' hp h hr;exact⟨w',h1,h2,h3,h4⟩
 | .mark m k,w,v,es,x,v',es',hp,h,hr=>by
   obtain⟨hm,hp⟩:=hp;simp only[Sem.runT]at hr;obtain⟨w',h1,h2,h3,h4⟩:=uA k w v _ x v' es' hp h hr;refine⟨w',h1,h2,h3,λe he=>?_⟩;rcases h4 e he with h5|h5
   .rcases jI.1 h5 with h6|rfl
    .exact .inl h6
    .exact .inr (.inr (.inr ⟨m,hm,rfl⟩))
   .exact .inr h5
 | .halt _,_,_,_,_,_,_,_,_,hr=>aoc
theorem vY.self{v:World}(hn:∀(b:Nat)(o:Obj),v.heap[b]?=some o->uT o):vY (λ_=>False) (λ_=>none) v v:=⟨rfl,λ_ h=>h.elim (λh=>h.elim) (λh=>dZ),λ_ _ _=>rfl,λ_ _ h=>dZ,λ_ h=>h.elim,hn,rfl,rfl,λ_ _=>rfl,λ_ _ _ _ h=>h.elim⟩
theorem uJ{P:Program}{α:Type}:∀(s:Sem α)(v:World)(es:Array Event)(x:α)(v':World)(es':Array Event),Plain P s->(∀(b:Nat)(o:Obj),v.heap[b]?=some o->uT o)->s.runT P v es=(.ok x v',es')->
  v'.tape=v.tape/\v.drawn<=v'.drawn/\∀τ:Nat->Question->Nat,(∀p,v.drawn<=p->p<v'.drawn->τ p=v.tape p)->s.runT P {v with tape:=τ} es=(.ok x {v' with tape:=τ},es')
 | .pure a,v,es,x,v',es',_,_,hr=>by simp only[Sem.runT,lQ,Result.ok.injEq]at hr;obtain⟨⟨rfl,rfl⟩,rfl⟩:=hr;exact⟨rfl,ak _,λ_ _=>rfl⟩
 | .load m a k,v,es,x,v',es',hp,hn,hr=>by
   obtain⟨rfl,hp⟩:=hp;cases hc:v.cell? a with
   |none=>
    obtain⟨e,he⟩:=J_ (P:=P) hn a (Mode.plain==Mode.atomic);simp only[Sem.runT,hc,he]at hr;cases hr
   |some u=>
    simp only[Sem.runT,hc]at hr;obtain⟨h1,h2,h3⟩:=uJ (k u) v _ x v' es' (hp u) hn hr;refine⟨h1,h2,λτ hτ=>?_⟩;have:({v with tape:=τ}:World).cell? a=some u:=hc;simp only[Sem.runT,this];exact h3 τ hτ
 | .store m a u k,v,es,x,v',es',hp,hn,hr=>by
   obtain⟨rfl,hp⟩:=hp
   have key:(∀(w:World),(Sem.store Mode.plain a u k).runT P w es=match w.cell? a with
     |some _=>if w.frozen? a then(.halt (.unsupported (.unsafePointer "a write to bytes that a string shares")) w,es)else k.runT P (w.setCell a u) (es.push ⟨.cell a,true,Mode.plain==Mode.atomic⟩)
     |none=>match w.farStore P a u (Mode.plain==Mode.atomic)with
      | .ok (w,touched)=>k.runT P w (es++touched.toArray.map (⟨.cell ·,true,Mode.plain==Mode.atomic⟩))
      | .error h=>(.halt h w,es))\/(∀(w:World),(Sem.store Mode.plain a u k).runT P w es=(.halt (.stuck "store: not the value of one cell") w,es)):=by
    exact aqw
   rcases key with key|key
   .rw[key]at hr;cases hc:v.cell? a with
    |none=>
     obtain⟨e,he⟩:=IC (P:=P) hn a u (Mode.plain==Mode.atomic);simp only[hc,he]at hr;cases hr
    |some u'=>
     simp only[hc]at hr;cases hz:v.frozen? a with
     |true=>rw[hz]at hr;simp at hr
     |false=>
      rw[hz]at hr;simp only[bF,aU]at hr;obtain⟨h1,h2,h3⟩:=uJ k (v.setCell a u) _ x v' es' hp ((vY.self hn).setCell (λh=>h) u).nv hr;refine⟨h1,h2,λτ hτ=>?_⟩;have e1:({v with tape:=τ}:World).cell? a=some u':=hc;have e2:({v with tape:=τ}:World).frozen? a=false:=hz;rw[key];simp only[e1,e2,bF,aU];exact h3 τ hτ
   .rw[key]at hr;cases hr
 | .new o k,v,es,x,v',es',hp,hn,hr=>by simp only[Sem.runT]at hr;obtain⟨h1,h2,h3⟩:=uJ (k v.heap.size) _ es x v' es' (hp.2 _) ((vY.self hn).push hp.1).nv hr;exact⟨h1,h2,λτ hτ=>h3 τ hτ⟩
 | .shape r k,v,es,x,v',es',hp,hn,hr=>by simp only[Sem.runT]at hr;exact uJ (k (v.shape? r)) v es x v' es' (hp.2 _) hn hr
 | .freeze a n k,_,_,_,_,_,hp,_,_=>hp.elim
 | .frozen a k,v,es,x,v',es',hp,hn,hr=>by simp only[Sem.runT]at hr;exact uJ (k (v.frozen? a)) v es x v' es' (hp _) hn hr
 | .getObj r k,v,es,x,v',es',hp,hn,hr=>by
   cases ho:v.heap[r]? with
   |none=>simp only[Sem.runT,ho]at hr;cases hr
   |some o=>
    cases o with
    |cells c t fr=>simp only[Sem.runT,ho]at hr;cases hr
    |_=>
     simp only[Sem.runT,ho]at hr;obtain⟨h1,h2,h3⟩:=uJ (k _) v _ x v' es' (hp.2 _) hn hr;refine⟨h1,h2,λτ hτ=>?_⟩;simp only[Sem.runT,ho];exact h3 τ hτ
 | .setObj r o k,_,_,_,_,_,hp,_,_=>hp.elim
 | .choose q k,v,es,x,v',es',hp,hn,hr=>by
   cases hq:q.forced with
   |true=>
    simp only[Sem.runT,hq,aF]at hr;obtain⟨h1,h2,h3⟩:=uJ (k 0) v es x v' es' (hp _) hn hr;refine⟨h1,h2,λτ hτ=>?_⟩;simp only[Sem.runT,hq,aF];exact h3 τ hτ
   |false=>
    simp only[Sem.runT,hq,bF,aU]at hr;obtain⟨h1,h2,h3⟩:=uJ (k _) {v with drawn:=v.drawn+1} es x v' es' (hp _) hn hr;dsimp only at h1 h2 h3;refine⟨h1,ae,λτ hτ=>?_⟩;simp only[Sem.runT,hq,bF,aU];rw[hτ v.drawn (ak _) ae];exact h3 τ λp hp1 hp2=>hτ p ae hp2
 | .sys c k,_,_,_,_,_,hp,_,_=>hp.elim
 | .program k,v,es,x,v',es',hp,hn,hr=>by simp only[Sem.runT]at hr;exact uJ (k P) v es x v' es' hp hn hr
 | .mark m k,v,es,x,v',es',hp,hn,hr=>by simp only[Sem.runT]at hr;exact uJ k v _ x v' es' hp.2 hn hr
 | .halt _,_,_,_,_,_,_,_,hr=>aoc
theorem TY{v:World}(hn:∀(b:Nat)(o:Obj),v.heap[b]?=some o->uT o)(a:Addr)(s:String):Dq (v.noCell a s):=by
 unfold World.noCell;split
 .rename_i h;exact(hn _ _ h).elim
 .trivial
 .trivial
theorem XF{P:Program}{v:World}(hn:∀(b:Nat)(o:Obj),v.heap[b]?=some o->uT o)(a:Addr)(m:Bool):∃e,v.farLoad P a m=.error e/\Dq e:=by
 unfold World.farLoad;split
 .rename_i h;obtain⟨e,he⟩:=IB (P:=P) (v:=v) (hn _ _ h) _ a m;rw[he];exact⟨_,rfl,trivial⟩
 .exact⟨_,rfl,TY hn _ _⟩
theorem Vk{P:Program}{v:World}(hn:∀(b:Nat)(o:Obj),v.heap[b]?=some o->uT o)(a:Addr)(u:Value)(m:Bool):∃e,v.farStore P a u m=.error e/\Dq e:=by
 unfold World.farStore;split
 .rename_i h;obtain⟨e,he⟩:=GI (P:=P) (v:=v) (hn _ _ h) _ a u m;rw[he];exact⟨_,rfl,trivial⟩
 .exact⟨_,rfl,TY hn _ _⟩
theorem sZ{P:Program}{X:Nat->Prop}{Y:Nat->Option Obj}{α:Type}:∀(s:Sem α)(w v:World)(es:Array Event)(x:Halt)(v':World)(es':Array Event),Plain P s->vY X Y w v->s.runT P v es=(.halt x v',es')->Dq x
 | .pure a,w,v,es,x,v',es',_,h,hr=>by simp only[Sem.runT]at hr;cases hr
 | .load m a k,w,v,es,x,v',es',hp,h,hr=>by
   obtain⟨rfl,hp⟩:=hp;cases hc:v.cell? a with
   |none=>
    obtain⟨e,he,hok⟩:=XF (P:=P) h.nv a (Mode.plain==Mode.atomic);simp only[Sem.runT,hc,he]at hr;cases hr;exact hok
   |some u=>
    simp only[Sem.runT,hc]at hr;exact sZ (k u) w v _ x v' es' (hp u) h hr
 | .store m a u k,w,v,es,x,v',es',hp,h,hr=>by
   obtain⟨rfl,hp⟩:=hp
   have key:(∀(w:World),(Sem.store Mode.plain a u k).runT P w es=match w.cell? a with
     |some _=>if w.frozen? a then(.halt (.unsupported (.unsafePointer "a write to bytes that a string shares")) w,es)else k.runT P (w.setCell a u) (es.push ⟨.cell a,true,Mode.plain==Mode.atomic⟩)
     |none=>match w.farStore P a u (Mode.plain==Mode.atomic)with
      | .ok (w,touched)=>k.runT P w (es++touched.toArray.map (⟨.cell ·,true,Mode.plain==Mode.atomic⟩))
      | .error h=>(.halt h w,es))\/(∀(w:World),(Sem.store Mode.plain a u k).runT P w es=(.halt (.stuck "store: not the value of one cell") w,es)):=by
    exact aqw
   rcases key with key|key
   .rw[key]at hr;cases hc:v.cell? a with
    |none=>
     obtain⟨e,he,hok⟩:=Vk (P:=P) h.nv a u (Mode.plain==Mode.atomic);simp only[hc,he]at hr;cases hr;exact hok
    |some u'=>
     simp only[hc]at hr;cases hz:v.frozen? a with
     |true=>
      rw[hz]at hr;simp only[aF]at hr;cases hr;trivial
     |false=>
      rw[hz]at hr;simp only[bF,aU]at hr;exact sZ k _ _ _ x v' es' hp (h.setCell (h.ab3 hc).1 u) hr
   .rw[key]at hr;cases hr;trivial
 | .new o k,w,v,es,x,v',es',hp,h,hr=>sZ (k v.heap.size) _ _ es x v' es' (hp.2 _) (h.push hp.1) hr
 | .shape r k,w,v,es,x,v',es',hp,h,hr=>sZ (k (v.shape? r)) w v es x v' es' (hp.2 _) h hr
 | .freeze a n k,_,_,_,_,_,_,hp,_,_=>hp.elim
 | .frozen a k,w,v,es,x,v',es',hp,h,hr=>sZ (k (v.frozen? a)) w v es x v' es' (hp _) h hr
 | .getObj r k,w,v,es,x,v',es',hp,h,hr=>by
   cases ho:v.heap[r]? with
   |none=>simp only[Sem.runT,ho]at hr;cases hr;trivial
   |some o=>
    cases o with
    |cells c t fr=>simp only[Sem.runT,ho]at hr;cases hr;trivial
    |_=>
     simp only[Sem.runT,ho]at hr;exact sZ (k _) w v _ x v' es' (hp.2 _) h hr
 | .setObj r o k,_,_,_,_,_,_,hp,_,_=>hp.elim
 | .choose q k,w,v,es,x,v',es',hp,h,hr=>by
   cases hq:q.forced with
   |true=>
    simp only[Sem.runT,hq,aF]at hr;exact sZ (k 0) w v es x v' es' (hp _) h hr
   |false=>
    simp only[Sem.runT,hq,bF,aU]at hr;exact sZ (k _) _ _ es x v' es' (hp _) h.draw hr
 | .sys c k,_,_,_,_,_,_,hp,_,_=>hp.elim
 | .program k,w,v,es,x,v',es',hp,h,hr=>sZ (k P) w v es x v' es' hp h hr
 | .mark m k,w,v,es,x,v',es',hp,h,hr=>sZ k w v _ x v' es' hp.2 h hr
 | .halt y,w,v,es,x,v',es',hp,_,hr=>by simp only[Sem.runT]at hr;cases hr;exact hp
section
variable {P:Program}{α β:Type}
theorem qg(a:α):Plain P (pure a:Sem α):=trivial
theorem Xo(a:α):Plain P (Sem.pure a):=trivial
theorem qj(s:String):Plain P (stuck s:Sem α):=trivial
theorem qY{u:Unsupported}(h:Dq (.unsupported u)):Plain P (unsupported u:Sem α):=h
theorem zO(v:Value):Plain P (goPanic v:Sem α):=trivial
theorem qh{s:Sem α}{f:α->Sem β}(h:Plain P s)(h':∀a,Plain P (f a)):Plain P (s>>=f):=Plain.bind s f h h'
theorem L9{s:Sem α}{f:α->β}(h:Plain P s):Plain P (f<$>s):=Plain.bind s _ h λ_=>trivial
theorem Jc(a:Addr):Plain P (load a):=⟨rfl,λ_=>trivial⟩
theorem NJ(a:Addr)(v:Value):Plain P (store a v):=⟨rfl,trivial⟩
theorem Hz{o:Obj}(h:uT o):Plain P (newObj o):=⟨h,λ_=>trivial⟩
theorem J7(a:Addr):Plain P (frozen a):=λ_=>trivial
theorem EG{r:Nat}{f:Obj->Sem β}(h:∀o o',J9 o o'->f o=f o'\/qJ P (f o'))(h':∀o,Plain P (f o)):Plain P (getObj r>>=f):=⟨h,h'⟩
theorem Je{f:Obj->Sem β}(h1:∀a b t,f (.view a t)=f (.view b t))(h2:∀c t,f (.pending c t)=f (.stringIter .empty 0)):∀o o',J9 o o'->f o=f o'\/qJ P (f o'):=by
 intro o o' g;rcases g with⟨a,t,rfl,rfl⟩|⟨c,t,rfl,rfl⟩
 .exact .inl (h1 _ _ _)
 .exact .inl (h2 _ _)
theorem GK(r:Nat):Plain P (numberAt r):=by
 refine⟨λt n=>.inr rfl,λs=>?_⟩;cases s with
 |some x=>trivial
 |none=>
  refine⟨λo o' g=>?_,λo=>?_⟩
  .rcases g with⟨a,t,rfl,rfl⟩|⟨c,t,rfl,rfl⟩<;>exact .inl rfl
  .cases o<;>trivial
theorem Qo{r:Nat}{f:Option (Addr×TypeId)->Sem β}(hd:∀y,qJ P (f (some y)))(hs:∀y,Plain P (f (some y)))(hn:Plain P (f none)):Plain P (viewAt r>>=f):=by
 refine⟨λt n=>.inr rfl,λs=>?_⟩;cases s with
 |some x=>exact hn
 |none=>
  refine⟨λo o' g=>?_,λo=>?_⟩
  .rcases g with⟨a,t,rfl,rfl⟩|⟨c,t,rfl,rfl⟩
   .exact .inr (hd _)
   .exact .inl rfl
  .cases o<;>first|exact hn|exact hs _
theorem Ko(a:Addr):Plain P (noView a):=by
 refine⟨λt n=>.inr rfl,λs=>?_⟩;cases s with
 |some x=>trivial
 |none=>
  refine⟨λo o' g=>?_,λo=>?_⟩
  .rcases g with⟨a,t,rfl,rfl⟩|⟨c,t,rfl,rfl⟩
   .exact .inr trivial
   .exact .inl rfl
  .cases o<;>trivial
theorem uf(q:Question):Plain P (choose q):=λ_=>trivial
theorem qZ:Plain P program:=trivial
theorem Jd(n:Nat):Plain P (askRoom n):=by
 unfold askRoom;split
 .exact⟨.inl rfl,trivial⟩
 .trivial
theorem qF{c:Prop}[Decidable c]{a b:Sem α}(h:Plain P a)(h':Plain P b):Plain P (if c then a else b):=by split<;>assumption
end
attribute [local irreducible] Plain
section
variable {P:Program}{α β:Type}
theorem qX(t:TypeId):Plain P (typeInfo t):=by unfold typeInfo;(repeat'(first|with_reducible(first|exact qg _|exact qj _|exact qZ|(refine qh ?_ (λ_=>?_)))|split))
theorem qp(t:TypeId):Plain P (underlying t):=by unfold underlying;(repeat'(first|with_reducible(first|exact qg _|exact qj _|exact qZ|(refine qh ?_ (λ_=>?_)))|split))
theorem uF(t:TypeId):Plain P (zeroValue t):=by have:=qX (P:=P) t;unfold zeroValue;(repeat'(first|with_reducible(first|assumption|exact qg _)|((with_reducible refine qY ?_);exact trivial)|with_reducible(refine qh ?_ (λ_=>?_))|split))
theorem rO(t:TypeId):Plain P (sizeOf t):=by have:=qX (P:=P) t;unfold sizeOf;(repeat'(with_reducible first|assumption|exact qg _|(refine qh ?_ (λ_=>?_))))
theorem NP(t:TypeId):Plain P (isAgg t):=by have:=qp (P:=P) t;unfold isAgg;(repeat'(first|with_reducible(first|assumption|exact qg _|(refine qh ?_ (λ_=>?_)))|split))
theorem J4(t:TypeId):Plain P (elemOf t):=by have:=qp (P:=P) t;unfold elemOf;(repeat'(first|with_reducible(first|assumption|exact qg _|exact qj _|(refine qh ?_ (λ_=>?_)))|split))
theorem AO(a:Addr):∀(n i:Nat)(acc:Array Value),Plain P (loadCellsFrom a i n acc)
 |0,_,acc=>qg acc
 |n+1,i,acc=>by unfold loadCellsFrom;exact qh (Jc _) λv=>AO a n _ _
theorem Az(a:Addr)(n:Nat):Plain P (loadCells a n):=AO a n 0 #[]
theorem xw(a:Addr):∀(vs:List Value)(i:Nat),Plain P (storeCells a vs i)
 |[],_=>qg ()
 |v::r,i=>by unfold storeCells;exact qh (NJ _ _) λ_=>xw a r _
theorem uS(t:TypeId)(a:Addr):Plain P (loadVar t a):=by
 have:=NP (P:=P) t;have:=rO (P:=P) t;unfold loadVar
 (repeat'(with_reducible first|assumption|exact qg _|exact Jc _|exact Az _ _|(refine qh ?_ (λ_=>?_))|(refine qF ?_ ?_)))
theorem BN(t:TypeId)(a:Addr)(v:Value):Plain P (storeVar t a v):=by
 have h1:=rO (P:=P) t;unfold storeVar
 (repeat'(with_reducible first|assumption|exact qj _|exact xw _ _ _|(refine qh ?_ (λ_=>?_))|(refine qF ?_ ?_)))
theorem Qp(t:TypeId)(cs:Array Value)(fr:Nat×Nat):Plain P (newObj (.cells cs t fr)):=Hz (o:=.cells cs t fr) trivial
theorem y8(t:TypeId)(cs:Array Value):Plain P (newRow t cs):=by unfold newRow;(repeat'(with_reducible first|exact qg _|exact Qp _ _ _|(refine qh ?_ (λ_=>?_))))
theorem yZ(t:TypeId)(v:Value):Plain P (newVar t v):=y8 t _
theorem qO(e:RuntimeError):Plain P (runtimePanic e:Sem α):=by
 unfold runtimePanic
 (repeat'(first|with_reducible(first|exact zO _|exact qZ|exact yZ _ _|exact J4 _|(refine qh ?_ (λ_=>?_)))|split))
theorem y9(k:IntKind)(x y:Int)(c:BoundsCode):Plain P (boundsPanic k x y c:Sem α):=by
 unfold boundsPanic
 (repeat'(with_reducible first|exact qg _|exact uf _|exact qO _|(refine qh ?_ (λ_=>?_))|(refine L9 ?_)|(refine qF ?_ ?_)))
theorem zQ(v:Value):Plain P (asIntOf v):=by unfold asIntOf;(repeat'(first|with_reducible(first|exact qg _|exact qj _)|((with_reducible refine qY ?_);exact trivial)|split))
theorem GL(v:Value):Plain P (asInt v):=by have:=zQ (P:=P) v;unfold asInt;(repeat'(with_reducible first|assumption|exact qg _|(refine qh ?_ (λ_=>?_))))
theorem Ba(v:Value):Plain P (asBool v):=by unfold asBool;(repeat'(first|with_reducible(first|exact qg _|exact qj _)|split))
theorem wW(v:Value):Plain P (Instr.sureAddr v):=by unfold Instr.sureAddr;(repeat'(first|with_reducible(first|exact qg _|exact qj _)|split))
theorem Bc(v:Value):Plain P (asAddr v):=by
 unfold asAddr
 (repeat'(first|with_reducible(first|exact qg _|exact qj _|exact qO _)|split))
theorem XG(t:TypeId)(b:Bool)(o:Value):Plain P (Instr.alloc t b o):=by unfold Instr.alloc;(repeat'(first|with_reducible(first|exact qg _|exact uF _|exact BN _ _ _|exact yZ _ _|(refine qh ?_ (λ_=>?_)))|split))
theorem Vl(t:TypeId)(v:Value):Plain P (Instr.loadAt t v):=by unfold Instr.loadAt;(repeat'(with_reducible first|exact uS _ _|exact wW _|(refine qh ?_ (λ_=>?_))))
theorem Rx(t:TypeId)(v u:Value):Plain P (Instr.storeAt t v u):=by unfold Instr.storeAt;(repeat'(with_reducible first|exact BN _ _ _|exact wW _|(refine qh ?_ (λ_=>?_))))
theorem Ry(t:TypeId)(x i:Value):Plain P (Instr.indexAt t x i):=by unfold Instr.indexAt;(repeat'(first|with_reducible(first|exact qg _|exact qj _)|((with_reducible refine qY ?_);exact trivial)|with_reducible(first|exact qp _|exact rO _|exact y9 _ _ _ _|exact zQ _|exact wW _|(refine qh ?_ (λ_=>?_))|(refine qF ?_ ?_))|split))
theorem Me(x:Value)(y:Nat)(c:BoundsCode):Plain P (Instr.sliceBound x y c):=by unfold Instr.sliceBound;(repeat'(with_reducible first|exact qg _|exact y9 _ _ _ _|exact zQ _|(refine qh ?_ (λ_=>?_))|(refine qF ?_ ?_)))
theorem CU(b:Bool)(l c:Nat)(lo hi mx:Option Value):Plain P (Instr.sliceBounds b l c lo hi mx):=by
 unfold Instr.sliceBounds
 (repeat'(first|with_reducible(first|exact qg _|exact qj _|exact Me _ _ _|(refine qh ?_ (λ_=>?_)))|split))
theorem XH(t:TypeId)(x:Value)(lo hi mx:Option Value):Plain P (Instr.slice t x lo hi mx):=by
 unfold Instr.slice
 (repeat'(first|with_reducible(first|exact qg _|exact qj _|exact CU _ _ _ _ _ _|exact qp _|exact rO _|exact Bc _|(refine qh ?_ (λ_=>?_))|(refine qF ?_ ?_))|split))
theorem Rz(t:TypeId)(x:Value)(lo hi mx:Option Value):Plain P (Instr.sliceAt t x lo hi mx):=by
 unfold Instr.sliceAt
 (repeat'(first|with_reducible(first|exact qg _|exact CU _ _ _ _ _ _|exact XH _ _ _ _ _|exact qp _|exact rO _|exact wW _|(refine qh ?_ (λ_=>?_)))|split))
theorem Ot(t:TypeId)(l c:Value):Plain P (Instr.makeSlice t l c):=by unfold Instr.makeSlice;(repeat'(first|with_reducible(first|exact qg _|exact qj _|exact uf _|exact Jd _|exact qX _|exact qp _|exact uF _|exact rO _|exact y8 _ _|exact qO _|exact GL _|(refine qh ?_ (λ_=>?_))|(refine qF ?_ ?_))|split))
theorem RF(t:Value)(i:Nat):Plain P (Instr.extract t i):=by unfold Instr.extract;(repeat'(first|with_reducible(first|exact qg _|exact qj _)|split))
theorem XI(o:UnOp)(x:Value):Plain P (Op.unary o x):=by unfold Op.unary Op.intArith Op.intBits;(repeat'(first|with_reducible(first|exact qg _|exact qj _)|((with_reducible refine qY ?_);exact trivial)|split))
theorem GM{r:Nat}{f:Option (TypeId×Nat)->Sem β}(h:∀t n,qJ P (f (some (t,0)))\/f (some (t,n))=f (some (t,0)))(h':∀s,Plain P (f s)):Plain P (shape r>>=f):=by unfold Plain;exact⟨h,h'⟩
theorem EH(a:Addr):Plain P (behindNumber a):=by unfold behindNumber;(repeat'(with_reducible first|exact qg _|exact GK _|(refine qh ?_ (λ_=>?_))))
theorem Be(a:Addr):Plain P (byteOf a):=by
 unfold byteOf;split
 ·(repeat'(with_reducible exact qg _))
 refine qh qZ λp=>qh (Ko a) λ_=>GM (λ_ _=>.inr rfl) λs=>?_
 (repeat'(first|with_reducible(first|exact qg _|exact qj _|(refine qF ?_ ?_))|split))
theorem Vm(a:Addr)(c b:Nat):Plain P (partAt a c b):=by unfold partAt;(repeat'(with_reducible first|exact qg _|exact Be _|(refine qh ?_ (λ_=>?_))))
theorem DY(a:Addr)(f:Field):Plain P (fieldPlace a f):=by unfold fieldPlace;(repeat'(with_reducible first|exact qg _|exact Vm _ _ _|exact rO _|(refine qh ?_ (λ_=>?_))|(refine qF ?_ ?_)))
theorem RG(t:TypeId)(x:Value)(f:Nat):Plain P (Instr.fieldAt t x f):=by unfold Instr.fieldAt;(repeat'(first|with_reducible(first|exact qg _|exact qj _|exact DY _ _|exact qp _|exact wW _|(refine qh ?_ (λ_=>?_)))|split))
theorem wX(t:TypeId)(cs:Array Value)(o:Nat):Plain P (part t cs o):=by unfold part;(repeat'(first|with_reducible(first|exact qg _|exact qj _|exact rO _|exact NP _|(refine qh ?_ (λ_=>?_))|(refine qF ?_ ?_))|split))
theorem XJ(v:Value):Plain P (asAgg v):=by unfold asAgg;(repeat'(first|with_reducible(first|exact qg _|exact qj _)|split))
theorem XK(t:TypeId)(x:Value)(f:Nat):Plain P (Instr.field t x f):=by unfold Instr.field;(repeat'(first|with_reducible(first|exact qj _|exact qp _|exact wX _ _ _|exact XJ _|(refine qh ?_ (λ_=>?_)))|split))
theorem XL(t:TypeId)(x i:Value):Plain P (Instr.index t x i):=by unfold Instr.index;(repeat'(first|with_reducible(first|exact qg _|exact qj _|exact qp _|exact wX _ _ _|exact rO _|exact zQ _|exact y9 _ _ _ _|(refine qh ?_ (λ_=>?_))|(refine qF ?_ ?_))|split))
theorem MB(t:TypeId)(n:Nat)(ps:Array (Nat×Value)):Plain P (Instr.buildSlice t n ps):=by unfold Instr.buildSlice;(repeat'(first|with_reducible(first|exact qg _|exact qj _)|((with_reducible refine qY ?_);exact trivial)|with_reducible(first|exact qp _|exact uF _|exact rO _|exact y8 _ _|(refine qh ?_ (λ_=>?_))|(refine qF ?_ ?_))|split|(dsimp only)))
theorem acB(t:TypeId)(v:Value):Plain P (Instr.box t v):=by unfold Instr.box;(repeat'(with_reducible first|exact qg _|exact yZ _ _|(refine qh ?_ (λ_=>?_))))
theorem NQ(v:Value):Plain P (Builtin.lenOf v):=by unfold Builtin.lenOf;(repeat'(first|with_reducible(first|exact qg _|exact qj _)|split))
theorem DZ(a b:Nat)(v:Value):Plain P (Builtin.firstCells a b v):=by unfold Builtin.firstCells;(repeat'(first|with_reducible(first|exact qg _|exact qj _|exact Az _ _)|split))
theorem ZT(ts:Array TypeId)(t:TypeId)(anE:Array Value):Plain P (Builtin.copy_ ts t anE):=by unfold Builtin.copy_;(repeat'(first|with_reducible(first|exact qg _|exact qj _|exact qp _|exact NQ _|exact DZ _ _ _|exact rO _|exact xw _ _ _|(refine qh ?_ (λ_=>?_)))|split))
theorem acC(ts:Array TypeId)(t:TypeId)(anE:Array Value):Plain P (Builtin.len_ ts t anE):=by unfold Builtin.len_;(repeat'(first|with_reducible(first|exact qg _|exact qj _|exact qp _)|((with_reducible refine EG ?_ ?_);(focus(exact Je (λ_ _ _=>rfl) (λ_ _=>rfl)));(intro _))|with_reducible(refine qh ?_ (λ_=>?_))|split))
theorem acD(ts:Array TypeId)(t:TypeId)(anE:Array Value):Plain P (Builtin.cap_ ts t anE):=by unfold Builtin.cap_;(repeat'(first|with_reducible(first|exact qg _|exact qj _|exact qp _)|((with_reducible refine EG ?_ ?_);(focus(exact Je (λ_ _ _=>rfl) (λ_ _=>rfl)));(intro _))|with_reducible(refine qh ?_ (λ_=>?_))|split))

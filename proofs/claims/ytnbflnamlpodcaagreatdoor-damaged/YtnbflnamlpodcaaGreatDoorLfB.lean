import Derived.Test.YtnbflnamlpodcaaGreatDoorAa
namespace Go.Lf
def wL:Obj->Prop
 | .view a _=>a.spot.isSome=true
 | .pending ..=>False
 |_=>True
def OC(o o':Obj):Prop:=
 (∃a t,o=.view a t/\o'=.view ⟨0,0,some default⟩ t)\/(∃c t,o=.pending c t/\o'=.stringIter .empty 0)
theorem OC.nv{o o':Obj}(h:OC o o'):wL o':=by
 rcases h with⟨a,t,_,rfl⟩|⟨c,t,_,rfl⟩
 .rfl
 .trivial
def FN:Halt->Prop
 | .panic _=>True
 | .stuck _=>True
 | .unsupported (.initOrder _)=>False
 | .unsupported _=>True
 |_=>False
def qM(P:Program){α:Type}:Sem α->Prop
 | .pure _=>False
 | .load _ _ k=>∀v,qM P (k v)
 | .store _ _ _ k=>qM P k
 | .new _ k=>∀r,qM P (k r)
 | .shape _ k=>∀s,qM P (k s)
 | .freeze _ _ k=>qM P k
 | .frozen _ k=>∀b,qM P (k b)
 | .getObj _ k=>∀o,qM P (k o)
 | .setObj _ _ k=>qM P k
 | .choose _ k=>∀n,qM P (k n)
 | .sys _ k=>∀r,qM P (k r)
 | .program k=>qM P (k P)
 | .mark _ k=>qM P k
 | .halt _=>True
def adD(m:Mark):Prop:=m=.noRoom\/∃f,m=.extern f
def Plain(P:Program){α:Type}:Sem α->Prop
 | .pure _=>True
 | .load m _ k=>m=.plain/\∀v,Plain P (k v)
 | .store m _ _ k=>m=.plain/\Plain P k
 | .new o k=>wL o/\∀r,Plain P (k r)
 | .shape _ k=>(∀t n,qM P (k (some (t,0)))\/k (some (t,n))=k (some (t,0)))/\∀s,Plain P (k s)
 | .freeze _ _ _=>False
 | .frozen _ k=>∀b,Plain P (k b)
 | .getObj _ k=>(∀o o',OC o o'->k o=k o'\/qM P (k o'))/\∀o,Plain P (k o)
 | .setObj _ _ _=>False
 | .choose _ k=>∀n,Plain P (k n)
 | .sys _ _=>False
 | .program k=>Plain P (k P)
 | .mark m k=>adD m/\Plain P k
 | .halt h=>FN h
section
variable {P:Program}{α β:Type}
theorem qM.bind:∀(s:Sem α)(f:α->Sem β),qM P s->qM P (s.bind f)
 | .pure _,_,h=>h.elim
 | .load _ _ k,f,h=>λv=>qM.bind (k v) f (h v)
 | .store _ _ _ k,f,h=>qM.bind k f h
 | .new _ k,f,h=>λv=>qM.bind (k v) f (h v)
 | .shape _ k,f,h=>λv=>qM.bind (k v) f (h v)
 | .freeze _ _ k,f,h=>qM.bind k f h
 | .frozen _ k,f,h=>λv=>qM.bind (k v) f (h v)
 | .getObj _ k,f,h=>λv=>qM.bind (k v) f (h v)
 | .setObj _ _ k,f,h=>qM.bind k f h
 | .choose _ k,f,h=>λv=>qM.bind (k v) f (h v)
 | .sys _ k,f,h=>λv=>qM.bind (k v) f (h v)
 | .program k,f,h=>qM.bind (k P) f h
 | .mark _ k,f,h=>qM.bind k f h
 | .halt _,_,_=>trivial
theorem qM.late:∀(s:Sem α)(f:α->Sem β),(∀a,qM P (f a))->qM P (s.bind f)
 | .pure a,_,h=>h a
 | .load _ _ k,f,h=>λv=>qM.late (k v) f h
 | .store _ _ _ k,f,h=>qM.late k f h
 | .new _ k,f,h=>λv=>qM.late (k v) f h
 | .shape _ k,f,h=>λv=>qM.late (k v) f h
 | .freeze _ _ k,f,h=>qM.late k f h
 | .frozen _ k,f,h=>λv=>qM.late (k v) f h
 | .getObj _ k,f,h=>λv=>qM.late (k v) f h
 | .setObj _ _ k,f,h=>qM.late k f h
 | .choose _ k,f,h=>λv=>qM.late (k v) f h
 | .sys _ k,f,h=>λv=>qM.late (k v) f h
 | .program k,f,h=>qM.late (k P) f h
 | .mark _ k,f,h=>qM.late k f h
 | .halt _,_,_=>trivial
theorem Plain.bind:∀(s:Sem α)(f:α->Sem β),Plain P s->(∀a,Plain P (f a))->Plain P (s.bind f)
 | .pure a,_,_,h=>h a
 | .load _ _ k,f,h,h'=>⟨h.1,λv=>Plain.bind (k v) f (h.2 v) h'⟩
 | .store _ _ _ k,f,h,h'=>⟨h.1,Plain.bind k f h.2 h'⟩
 | .new _ k,f,h,h'=>⟨h.1,λv=>Plain.bind (k v) f (h.2 v) h'⟩
 | .shape _ k,f,h,h'=>⟨λt n=>(h.1 t n).imp (qM.bind _ f) (λe=>aP (λs=>Sem.bind s f) e),λv=>Plain.bind (k v) f (h.2 v) h'⟩
 | .freeze _ _ _,_,h,_=>h.elim
 | .frozen _ k,f,h,h'=>λv=>Plain.bind (k v) f (h v) h'
 | .getObj _ k,f,h,h'=>⟨λo o' g=>(h.1 o o' g).imp (λe=>aP (λs=>Sem.bind s f) e) (qM.bind _ f),λv=>Plain.bind (k v) f (h.2 v) h'⟩
 | .setObj _ _ _,_,h,_=>h.elim
 | .choose _ k,f,h,h'=>λv=>Plain.bind (k v) f (h v) h'
 | .sys _ _,_,h,_=>h.elim
 | .program k,f,h,h'=>Plain.bind (k P) f h h'
 | .mark _ k,f,h,h'=>⟨h.1,Plain.bind k f h.2 h'⟩
 | .halt _,_,h,_=>h
theorem rZ:∀(s:Sem α),qM P s->∀(w:World)(es:Array Event),∃h w' rJ,s.runT P w es=(.halt h w',rJ)
 | .pure _,h,_,_=>h.elim
 | .load m a k,h,w,es=>by
   unfold Sem.runT;cases w.cell? a with
   |some v=>exact rZ (k v) (h v) _ _
   |none=>
    dsimp only;cases w.farLoad P a (m==.atomic)with
    |ok r=>exact rZ (k r.1) (h r.1) _ _
    |error e=>exact⟨_,_,_,rfl⟩
 | .store m a v k,h,w,es=>by
   cases v<;>first
    |exact⟨_,_,_,rfl⟩
    |(unfold Sem.runT
      cases w.cell? a with
      |some u=>
       dsimp only;split
       .exact⟨_,_,_,rfl⟩
       .exact rZ k h _ _
      |none=>
       dsimp only;cases w.farStore P a _ (m==.atomic)with
       |ok r=>exact rZ k h _ _
       |error e=>exact⟨_,_,_,rfl⟩)
 | .new o k,h,w,es=>rZ (k w.heap.size) (h _) _ es
 | .shape r k,h,w,es=>rZ (k (w.shape? r)) (h _) w es
 | .freeze a n k,h,w,es=>rZ k h (w.freeze a n) es
 | .frozen a k,h,w,es=>rZ (k (w.frozen? a)) (h _) w es
 | .getObj r k,h,w,es=>by
   unfold Sem.runT;split
   .exact⟨_,_,_,rfl⟩
   .exact rZ (k _) (h _) _ _
   .exact⟨_,_,_,rfl⟩
 | .setObj r o k,h,w,es=>by
   unfold Sem.runT;split
   .exact⟨_,_,_,rfl⟩
   .exact rZ k h _ _
   .exact⟨_,_,_,rfl⟩
 | .choose q k,h,w,es=>by
   unfold Sem.runT;split
   .exact rZ (k 0) (h _) _ _
   .exact rZ (k _) (h _) _ _
 | .sys c k,h,w,es=>rZ (k (w.sys c).1) (h _) (w.sys c).2 _
 | .program k,h,w,es=>rZ (k P) h w es
 | .mark m k,h,w,es=>rZ k h w _
 | .halt x,_,w,es=>⟨x,w,es,rfl⟩
end
structure xE(X:Nat->Prop)(Y:Nat->Option Obj)(w v:World):Prop where
 size:w.heap.size=v.heap.size
 bound:∀b,X b\/(Y b).isSome=true->b<v.heap.size
 same:∀b,¬X b->Y b=none->w.heap[b]?=v.heap[b]?
 gho:∀b o,Y b=some o->∃o',w.heap[b]?=some o/\v.heap[b]?=some o'/\OC o o'
 doc:∀b,X b->∃cs t fr,w.heap[b]?=some (.cells cs t fr)/\v.heap[b]?=some (.cells #[] t fr)
 nv:∀(b:Nat)(o:Obj),v.heap[b]?=some o->wL o
 os:w.os=v.os
 out:w.output=v.output
 str:∀i q,w.tape (w.drawn+i) q=v.tape (v.drawn+i) q
 unf:∀b cs t fr,X b->v.heap[b]?=some (.cells cs t fr)->fr=(0,0)
def EvP(X:Nat->Prop)(w:World)(e:Event):Prop:=
 (∃a wr,e=⟨.cell a,wr,false⟩/\a.block<w.heap.size/\¬X a.block)\/(∃r wr sy,e=⟨.obj r,wr,sy⟩/\r<w.heap.size/\¬X r)\/∃m,adD m/\e=⟨.mark m,false,true⟩
section
variable {X:Nat->Prop}{Y:Nat->Option Obj}{w v:World}
theorem EvP.grow{w':World}{e:Event}(h:EvP X w e)(hs:w.heap.size<=w'.heap.size):EvP X w' e:=by
 rcases h with⟨a,wr,h1,h2,h3⟩|⟨r,wr,sy,h1,h2,h3⟩|h
 .exact .inl ⟨a,wr,h1,ae,h3⟩
 .exact .inr (.inl ⟨r,wr,sy,h1,ae,h3⟩)
 .exact .inr (.inr h)
theorem xE.afT(h:xE X Y w v){a:Addr}{u:Value}(hc:v.cell? a=some u):¬X a.block/\Y a.block=none/\a.block<v.heap.size:=by
 unfold World.cell? at hc;refine⟨λhx=>?_,?_,?_⟩
 .obtain⟨cs,t,fr,_,h2⟩:=h.doc _ hx;rw[h2]at hc;dsimp only at hc;split at hc<;>simp at hc
 .cases hy:Y a.block with
  |none=>rfl
  |some o=>
   obtain⟨o',_,h2,hg⟩:=h.gho _ _ hy;rw[h2]at hc;rcases hg with⟨b,t,_,rfl⟩|⟨c,t,_,rfl⟩<;>cases hc
 .cases hb:v.heap[a.block]? with
  |none=>rw[hb]at hc;simp at hc
  |some o=>exact(bf.1 hb).1
theorem xE.cell(h:xE X Y w v){a:Addr}(hx:¬X a.block)(hy:Y a.block=none):w.cell? a=v.cell? a:=by unfold World.cell?;rw[h.same _ hx hy]
theorem xE.frozen(h:xE X Y w v)(a:Addr):w.frozen? a=v.frozen? a:=by
 unfold World.frozen?;by_cases hx:X a.block
 .obtain⟨cs,t,fr,h1,h2⟩:=h.doc _ hx;rw[h1,h2]
 .cases hy:Y a.block with
  |some o=>
   obtain⟨o',h1,h2,hg⟩:=h.gho _ _ hy;rw[h1,h2];rcases hg with⟨b,t,rfl,rfl⟩|⟨c,t,rfl,rfl⟩<;>rfl
  |none=>rw[h.same _ hx hy]
theorem XX{P:Program}{v:World}{b:Addr}(hb:b.spot.isSome=true)(t:TypeId)(a:Addr)(m:Bool):∃e,v.seen P b t a m=.error e:=by unfold World.seen;rw[hb,Bool.or_true];exact⟨_,rfl⟩
theorem LK{P:Program}{v:World}{b:Addr}(hb:b.spot.isSome=true)(t:TypeId)(a:Addr)(m:Bool):∃e,v.viewLoad P b t a m=.error e:=by obtain⟨e,he⟩:=XX (P:=P) (v:=v) hb t a m;unfold World.viewLoad;exact awP
theorem JB{P:Program}{v:World}{b:Addr}(hb:b.spot.isSome=true)(t:TypeId)(a:Addr)(u:Value)(m:Bool):∃e,v.viewStore P b t a u m=.error e:=by
 obtain⟨e,he⟩:=XX (P:=P) (v:=v) hb t a m;unfold World.viewStore;cases tight P P.depth t with
 |false=>exact⟨_,rfl⟩
 |true=>
  exact awP
theorem OD{P:Program}(hn:∀(b:Nat)(o:Obj),v.heap[b]?=some o->wL o)(a:Addr)(m:Bool):∃e,v.farLoad P a m=.error e:=by
 unfold World.farLoad;split
 .rename_i h;obtain⟨e,he⟩:=LK (P:=P) (v:=v) (hn _ _ h) _ a m;exact awP
 .exact⟨_,rfl⟩
theorem LM{P:Program}(hn:∀(b:Nat)(o:Obj),v.heap[b]?=some o->wL o)(a:Addr)(u:Value)(m:Bool):∃e,v.farStore P a u m=.error e:=by
 unfold World.farStore;split
 .rename_i h;obtain⟨e,he⟩:=JB (P:=P) (v:=v) (hn _ _ h) _ a u m;exact awP
 .exact⟨_,rfl⟩
theorem xE.modify(h:xE X Y w v)(b:Nat)(f:Obj->Obj)(hf:∀o,wL o->wL (f o))(hg:∀o o',OC o o'->f o=o/\f o'=o')(hc:¬X b):
  xE X Y {w with heap:=w.heap.modify b f} {v with heap:=v.heap.modify b f}:=by
 refine⟨jE,λx hx=>by simpa using h.bound x hx,λx hx hy=>?_,λx o hy=>?_,λx hx=>?_,λx o hx=>?_,h.os,h.out,h.str,λx cs t fr hx hb=>?_⟩
 .simp only[gK,h.same x hx hy]
 .obtain⟨o',h1,h2,h3⟩:=h.gho x o hy;refine⟨o',?_,?_,h3⟩
  .simp only[gK,h1];split<;>simp[(hg o o' h3).1]
  .simp only[gK,h2];split<;>simp[(hg o o' h3).2]
 .obtain⟨cs,t,fr,h1,h2⟩:=h.doc x hx;simp only[gK,h1,h2];by_cases hb:b=x
  .subst hb;exact absurd hx hc
  .simp only[ah hb];exact⟨cs,t,fr,rfl,rfl⟩
 .simp only[gK]at hx;by_cases hb:b=x
  .subst hb;simp only[aF,bT]at hx;obtain⟨o',h1,rfl⟩:=hx;exact hf o' (h.nv _ _ h1)
  .rw[ah hb]at hx;exact h.nv _ _ hx
 .simp only[gK]at hb;by_cases hbx:b=x
  .subst hbx;exact absurd hx hc
  .rw[ah hbx]at hb;exact h.unf x cs t fr hx hb
theorem xE.setCell(h:xE X Y w v){a:Addr}(hx:¬X a.block)(u:Value):xE X Y (w.setCell a u) (v.setCell a u):=
 h.modify a.block _ (λo ho=>by cases o<;>first|exact ho|trivial) (λo o' hg=>by rcases hg with⟨b,t,rfl,rfl⟩|⟨c,t,rfl,rfl⟩<;>exact⟨rfl,rfl⟩) hx
theorem xE.push(h:xE X Y w v){o:Obj}(ho:wL o):xE X Y {w with heap:=w.heap.push o} {v with heap:=v.heap.push o}:=by
 refine⟨jE,λb hb=>by have:=h.bound b hb;simp;omega,λb hb hy=>?_,λb o hy=>?_,λb hb=>?_,λb o' hb=>?_,h.os,h.out,h.str,λb cs t fr hx hb=>?_⟩
 .simp only[gJ,h.size,h.same b hb hy]
 .rename_i oo;obtain⟨o2,h1,h2,h3⟩:=h.gho b _ hy;have qE:=h.bound b (.inr (by rw[hy];rfl));refine⟨o2,?_,?_,h3⟩
  .rw[gJ,ah pJ];exact h1
  .rw[gJ,ah ae];exact h2
 .obtain⟨cs,t,fr,h1,h2⟩:=h.doc b hb;have qE:=h.bound b (.inl hb);refine⟨cs,t,fr,?_,?_⟩
  .rw[gJ,ah pJ];exact h1
  .rw[gJ,ah ae];exact h2
 .simp only[gJ]at hb;split at hb
  .cases hb;exact ho
  .exact h.nv b o' hb
 .have qE:=h.bound b (.inl hx);simp only[gJ]at hb;rw[ah ae]at hb;exact h.unf b cs t fr hx hb
theorem xE.draw(h:xE X Y w v):xE X Y {w with drawn:=w.drawn+1} {v with drawn:=v.drawn+1}:=
 ⟨h.size,h.bound,h.same,h.gho,h.doc,h.nv,h.os,h.out,λi q=>by have:=h.str (i+1) q;simpa[dw,iQ 1 i]using this,h.unf⟩
end
theorem vJ{P:Program}{X:Nat->Prop}{Y:Nat->Option Obj}{α:Type}:∀(s:Sem α)(w v:World)(es:Array Event)(x:α)(v':World)(rJ:Array Event),Plain P s->xE X Y w v->s.runT P v es=(.ok x v',rJ)->
  ∃w',s.runT P w es=(.ok x w',rJ)/\xE X Y w' v'/\v.heap.size<=v'.heap.size/\∀e∈rJ,e∈es\/EvP X w' e
 | .pure a,w,v,es,x,v',rJ,_,h,hr=>by simp only[Sem.runT,lZ,Result.ok.injEq]at hr;obtain⟨⟨rfl,rfl⟩,rfl⟩:=hr;exact⟨w,rfl,h,ak _,λe he=>.inl he⟩
 | .load m a k,w,v,es,x,v',rJ,hp,h,hr=>by
   obtain⟨rfl,hp⟩:=hp;cases hc:v.cell? a with
   |none=>
    obtain⟨e,he⟩:=OD (P:=P) h.nv a (Mode.plain==Mode.atomic);simp only[Sem.runT,hc,he]at hr;cases hr
   |some u=>
    obtain⟨hx,hy,qE⟩:=h.afT hc;simp only[Sem.runT,hc]at hr;obtain⟨w',h1,h2,h3,h4⟩:=vJ (k u) w v _ x v' rJ (hp u) h hr;refine⟨w',by simp only[Sem.runT,h.cell hx hy,hc];exact h1,h2,h3,λe he=>?_⟩;rcases h4 e he with h5|h5
    .rcases jP.1 h5 with h6|rfl
     .exact .inl h6
     .exact .inr (.inl ⟨a,false,rfl,by rw[h2.size];omega,hx⟩)
    .exact .inr h5
 | .store m a u k,w,v,es,x,v',rJ,hp,h,hr=>by
   obtain⟨rfl,hp⟩:=hp
   have key:(∀(w:World),(Sem.store Mode.plain a u k).runT P w es=match w.cell? a with
     |some _=>if w.frozen? a then(.halt (.unsupported (.unsafePointer "a write to bytes that a string shares")) w,es)else k.runT P (w.setCell a u) (es.push ⟨.cell a,true,Mode.plain==Mode.atomic⟩)
     |none=>match w.farStore P a u (Mode.plain==Mode.atomic)with
      | .ok (w,touched)=>k.runT P w (es++touched.toArray.map (⟨.cell ·,true,Mode.plain==Mode.atomic⟩))
      | .error h=>(.halt h w,es))\/(∀(w:World),(Sem.store Mode.plain a u k).runT P w es=(.halt (.stuck "store: not the value of one cell") w,es)):=by
    exact aw4
   rcases key with key|key
   .rw[key]at hr;cases hc:v.cell? a with
    |none=>
     obtain⟨e,he⟩:=LM (P:=P) h.nv a u (Mode.plain==Mode.atomic);simp only[hc,he]at hr;cases hr
    |some u'=>
     obtain⟨hx,hy,qE⟩:=h.afT hc;simp only[hc]at hr;cases hz:v.frozen? a with
     |true=>rw[hz]at hr;simp at hr
     |false=>
      rw[hz]at hr;simp only[bu,aU]at hr;obtain⟨w',h1,h2,h3,h4⟩:=vJ k (w.setCell a u) (v.setCell a u) _ x v' rJ hp (h.setCell hx u) hr;refine⟨w',by rw[key];simp only[h.cell hx hy,hc,h.frozen,hz,bu,aU];exact h1,h2,avt,λe he=>?_⟩;rcases h4 e he with h5|h5
      .rcases jP.1 h5 with h6|rfl
       .exact .inl h6
       .refine .inr (.inl ⟨a,true,rfl,?_,hx⟩);have:v.heap.size<=v'.heap.size:=avt;rw[h2.size];omega
      .exact .inr h5
   .rw[key]at hr;cases hr
 | .new o k,w,v,es,x,v',rJ,hp,h,hr=>by simp only[Sem.runT]at hr;obtain⟨w',h1,h2,h3,h4⟩:=vJ (k v.heap.size) _ _ es x v' rJ (hp.2 _) (h.push hp.1) hr;refine⟨w',by simp only[Sem.runT,h.size];exact h1,h2,?_,h4⟩;simp at h3;omega
 | .shape r k,w,v,es,x,v',rJ,hp,h,hr=>by
   simp only[Sem.runT]at hr;by_cases hx:X r
   .obtain⟨cs,t,fr,e1,e2⟩:=h.doc r hx;have s2:v.shape? r=some (t,0):=by simp[World.shape?,e2]
    have s1:w.shape? r=some (t,cs.size):=by simp[World.shape?,e1]
    rw[s2]at hr;rcases hp.1 t cs.size with hd|he
    .obtain⟨y,w',asV,hh⟩:=rZ (k (some (t,0))) hd v es;rw[hh]at hr;cases hr
    .obtain⟨w',h1,h2,h3,h4⟩:=vJ (k (some (t,0))) w v es x v' rJ (hp.2 _) h hr;exact⟨w',by simp only[Sem.runT,s1,he];exact h1,h2,h3,h4⟩
   .have e:w.shape? r=v.shape? r:=by
     cases hy:Y r with
     |some o=>
      obtain⟨o',h1,h2,hg⟩:=h.gho _ _ hy;simp only[World.shape?,h1,h2];rcases hg with⟨b,t,rfl,rfl⟩|⟨c,t,rfl,rfl⟩<;>rfl
     |none=>simp only[World.shape?,h.same r hx hy]
    obtain⟨w',h1,h2,h3,h4⟩:=vJ (k (v.shape? r)) w v es x v' rJ (hp.2 _) h hr;exact⟨w',by simp only[Sem.runT,e];exact h1,h2,h3,h4⟩
 | .freeze a n k,_,_,_,_,_,_,hp,_,_=>hp.elim
 | .frozen a k,w,v,es,x,v',rJ,hp,h,hr=>by simp only[Sem.runT]at hr;obtain⟨w',h1,h2,h3,h4⟩:=vJ (k (v.frozen? a)) w v es x v' rJ (hp _) h hr;exact⟨w',by simp only[Sem.runT,h.frozen];exact h1,h2,h3,h4⟩
 | .getObj r k,w,v,es,x,v',rJ,hp,h,hr=>by
   by_cases hx:X r
   .obtain⟨cs,t,fr,_,e2⟩:=h.doc r hx;simp only[Sem.runT,e2]at hr;cases hr
   .rcases hy:Y r with _|o
    case some=>
     obtain⟨o',h1,h2,hg⟩:=h.gho r o hy;have qE:=(bf.1 h2).1
     have ev:∀(u:World)(q:Obj),u.heap[r]?=some q->(∀c t fr,q≠.cells c t fr)->(Sem.getObj r k).runT P u es=(k q).runT P u (es.push ⟨.obj r,false,q.isChan⟩):=λu q hu hq=>by cases q<;>first|exact absurd rfl (hq _ _ _)|simp only[Sem.runT,hu]
     have n1:∀c t fr,o≠.cells c t fr:=by rcases hg with⟨b,t,rfl,rfl⟩|⟨c,t,rfl,rfl⟩<;>(intro _ _ _ hh;cases hh)
     have n2:∀c t fr,o'≠.cells c t fr:=by rcases hg with⟨b,t,rfl,rfl⟩|⟨c,t,rfl,rfl⟩<;>(intro _ _ _ hh;cases hh)
     rw[ev v o' h2 n2]at hr;rcases hp.1 o o' hg with he|hd
     .have hi:o.isChan=o'.isChan:=by rcases hg with⟨b,t,rfl,rfl⟩|⟨c,t,rfl,rfl⟩<;>rfl
      obtain⟨w',h3,h4,h5,h6⟩:=vJ (k o') w v _ x v' rJ (hp.2 _) h hr;refine⟨w',by rw[ev w o h1 n1,he,hi];exact h3,h4,h5,λe he=>?_⟩;rcases h6 e he with h7|h7
      .rcases jP.1 h7 with h8|rfl
       .exact .inl h8
       .exact .inr (.inr (.inl ⟨r,_,_,rfl,by rw[h4.size];omega,hx⟩))
      .exact .inr h7
     .obtain⟨y,w',asV,hh⟩:=rZ (k o') hd v (es.push ⟨.obj r,false,o'.isChan⟩);rw[hh]at hr;cases hr
    have e:=h.same r hx hy;cases ho:v.heap[r]? with
    |none=>simp only[Sem.runT,ho]at hr;cases hr
    |some o=>
     have qE:=(bf.1 ho).1;cases o with
     |cells c t fr=>simp only[Sem.runT,ho]at hr;cases hr
     |_=>
      simp only[Sem.runT,ho]at hr;obtain⟨w',h1,h2,h3,h4⟩:=vJ (k _) w v _ x v' rJ (hp.2 _) h hr;refine⟨w',by simp only[Sem.runT,e,ho];exact h1,h2,h3,λe he=>?_⟩;rcases h4 e he with h5|h5
      .rcases jP.1 h5 with h6|rfl
       .exact .inl h6
       .exact .inr (.inr (.inl ⟨r,_,_,rfl,by rw[h2.size];omega,hx⟩))
      .exact .inr h5
 | .setObj r o k,_,_,_,_,_,_,hp,_,_=>hp.elim
 | .choose q k,w,v,es,x,v',rJ,hp,h,hr=>by
   have e:w.tape w.drawn q=v.tape v.drawn q:=by simpa using h.str 0 q
   cases hq:q.forced with
   |true=>
    simp only[Sem.runT,hq,aF]at hr;obtain⟨w',h1,h2,h3,h4⟩:=vJ (k 0) w v es x v' rJ (hp _) h hr;exact⟨w',by simp only[Sem.runT,hq,aF];exact h1,h2,h3,h4⟩
   |false=>
    simp only[Sem.runT,hq,bu,aU]at hr;obtain⟨w',h1,h2,h3,h4⟩:=vJ (k _) _ _ es x v' rJ (hp _) h.draw hr;exact⟨w',by simp only[Sem.runT,hq,bu,aU,e];exact h1,h2,h3,h4⟩
 | .sys c k,_,_,_,_,_,_,hp,_,_=>hp.elim
 | .program k,w,v,es,x,v',rJ,hp,h,hr=>by simp only[Sem.runT]at hr;obtain⟨w',h1,h2,h3,h4⟩:=vJ (k P) w v es x v' rJ hp h hr;exact⟨w',h1,h2,h3,h4⟩
 | .mark m k,w,v,es,x,v',rJ,hp,h,hr=>by
   obtain⟨hm,hp⟩:=hp;simp only[Sem.runT]at hr;obtain⟨w',h1,h2,h3,h4⟩:=vJ k w v _ x v' rJ hp h hr;refine⟨w',h1,h2,h3,λe he=>?_⟩;rcases h4 e he with h5|h5
   .rcases jP.1 h5 with h6|rfl
    .exact .inl h6
    .exact .inr (.inr (.inr ⟨m,hm,rfl⟩))
   .exact .inr h5
 | .halt _,_,_,_,_,_,_,_,_,hr=>auz
theorem xE.self{v:World}(hn:∀(b:Nat)(o:Obj),v.heap[b]?=some o->wL o):xE (λ_=>False) (λ_=>none) v v:=⟨rfl,λ_ h=>h.elim (λh=>h.elim) (λh=>eP),λ_ _ _=>rfl,λ_ _ h=>eP,λ_ h=>h.elim,hn,rfl,rfl,λ_ _=>rfl,λ_ _ _ _ h=>h.elim⟩
theorem vZ{P:Program}{α:Type}:∀(s:Sem α)(v:World)(es:Array Event)(x:α)(v':World)(rJ:Array Event),Plain P s->(∀(b:Nat)(o:Obj),v.heap[b]?=some o->wL o)->s.runT P v es=(.ok x v',rJ)->
  v'.tape=v.tape/\v.drawn<=v'.drawn/\∀τ:Nat->Question->Nat,(∀p,v.drawn<=p->p<v'.drawn->τ p=v.tape p)->s.runT P {v with tape:=τ} es=(.ok x {v' with tape:=τ},rJ)
 | .pure a,v,es,x,v',rJ,_,_,hr=>by simp only[Sem.runT,lZ,Result.ok.injEq]at hr;obtain⟨⟨rfl,rfl⟩,rfl⟩:=hr;exact⟨rfl,ak _,λ_ _=>rfl⟩
 | .load m a k,v,es,x,v',rJ,hp,hn,hr=>by
   obtain⟨rfl,hp⟩:=hp;cases hc:v.cell? a with
   |none=>
    obtain⟨e,he⟩:=OD (P:=P) hn a (Mode.plain==Mode.atomic);simp only[Sem.runT,hc,he]at hr;cases hr
   |some u=>
    simp only[Sem.runT,hc]at hr;obtain⟨h1,h2,h3⟩:=vZ (k u) v _ x v' rJ (hp u) hn hr;refine⟨h1,h2,λτ hτ=>?_⟩;have:({v with tape:=τ}:World).cell? a=some u:=hc;simp only[Sem.runT,this];exact h3 τ hτ
 | .store m a u k,v,es,x,v',rJ,hp,hn,hr=>by
   obtain⟨rfl,hp⟩:=hp
   have key:(∀(w:World),(Sem.store Mode.plain a u k).runT P w es=match w.cell? a with
     |some _=>if w.frozen? a then(.halt (.unsupported (.unsafePointer "a write to bytes that a string shares")) w,es)else k.runT P (w.setCell a u) (es.push ⟨.cell a,true,Mode.plain==Mode.atomic⟩)
     |none=>match w.farStore P a u (Mode.plain==Mode.atomic)with
      | .ok (w,touched)=>k.runT P w (es++touched.toArray.map (⟨.cell ·,true,Mode.plain==Mode.atomic⟩))
      | .error h=>(.halt h w,es))\/(∀(w:World),(Sem.store Mode.plain a u k).runT P w es=(.halt (.stuck "store: not the value of one cell") w,es)):=by
    exact aw4
   rcases key with key|key
   .rw[key]at hr;cases hc:v.cell? a with
    |none=>
     obtain⟨e,he⟩:=LM (P:=P) hn a u (Mode.plain==Mode.atomic);simp only[hc,he]at hr;cases hr
    |some u'=>
     simp only[hc]at hr;cases hz:v.frozen? a with
     |true=>rw[hz]at hr;simp at hr
     |false=>
      rw[hz]at hr;simp only[bu,aU]at hr;obtain⟨h1,h2,h3⟩:=vZ k (v.setCell a u) _ x v' rJ hp ((xE.self hn).setCell (λh=>h) u).nv hr;refine⟨h1,h2,λτ hτ=>?_⟩;have e1:({v with tape:=τ}:World).cell? a=some u':=hc;have e2:({v with tape:=τ}:World).frozen? a=false:=hz;rw[key];simp only[e1,e2,bu,aU];exact h3 τ hτ
   .rw[key]at hr;cases hr
 | .new o k,v,es,x,v',rJ,hp,hn,hr=>by simp only[Sem.runT]at hr;obtain⟨h1,h2,h3⟩:=vZ (k v.heap.size) _ es x v' rJ (hp.2 _) ((xE.self hn).push hp.1).nv hr;exact⟨h1,h2,λτ hτ=>h3 τ hτ⟩
 | .shape r k,v,es,x,v',rJ,hp,hn,hr=>by simp only[Sem.runT]at hr;exact vZ (k (v.shape? r)) v es x v' rJ (hp.2 _) hn hr
 | .freeze a n k,_,_,_,_,_,hp,_,_=>hp.elim
 | .frozen a k,v,es,x,v',rJ,hp,hn,hr=>by simp only[Sem.runT]at hr;exact vZ (k (v.frozen? a)) v es x v' rJ (hp _) hn hr
 | .getObj r k,v,es,x,v',rJ,hp,hn,hr=>by
   cases ho:v.heap[r]? with
   |none=>simp only[Sem.runT,ho]at hr;cases hr
   |some o=>
    cases o with
    |cells c t fr=>simp only[Sem.runT,ho]at hr;cases hr
    |_=>
     simp only[Sem.runT,ho]at hr;obtain⟨h1,h2,h3⟩:=vZ (k _) v _ x v' rJ (hp.2 _) hn hr;refine⟨h1,h2,λτ hτ=>?_⟩;simp only[Sem.runT,ho];exact h3 τ hτ
 | .setObj r o k,_,_,_,_,_,hp,_,_=>hp.elim
 | .choose q k,v,es,x,v',rJ,hp,hn,hr=>by
   cases hq:q.forced with
   |true=>
    simp only[Sem.runT,hq,aF]at hr;obtain⟨h1,h2,h3⟩:=vZ (k 0) v es x v' rJ (hp _) hn hr;refine⟨h1,h2,λτ hτ=>?_⟩;simp only[Sem.runT,hq,aF];exact h3 τ hτ
   |false=>
    simp only[Sem.runT,hq,bu,aU]at hr;obtain⟨h1,h2,h3⟩:=vZ (k _) {v with drawn:=v.drawn+1} es x v' rJ (hp _) hn hr;dsimp only at h1 h2 h3;refine⟨h1,ae,λτ hτ=>?_⟩;simp only[Sem.runT,hq,bu,aU];rw[hτ v.drawn (ak _) ae];exact h3 τ λp EJ CJ=>hτ p ae CJ
 | .sys c k,_,_,_,_,_,hp,_,_=>hp.elim
 | .program k,v,es,x,v',rJ,hp,hn,hr=>by simp only[Sem.runT]at hr;exact vZ (k P) v es x v' rJ hp hn hr
 | .mark m k,v,es,x,v',rJ,hp,hn,hr=>by simp only[Sem.runT]at hr;exact vZ k v _ x v' rJ hp.2 hn hr
 | .halt _,_,_,_,_,_,_,_,hr=>auz
theorem XY{v:World}(hn:∀(b:Nat)(o:Obj),v.heap[b]?=some o->wL o)(a:Addr)(s:String):FN (v.noCell a s):=by
 unfold World.noCell;split
 .rename_i h;exact(hn _ _ h).elim
 .trivial
 .trivial
theorem abx{P:Program}{v:World}(hn:∀(b:Nat)(o:Obj),v.heap[b]?=some o->wL o)(a:Addr)(m:Bool):∃e,v.farLoad P a m=.error e/\FN e:=by
 unfold World.farLoad;split
 .rename_i h;obtain⟨e,he⟩:=LK (P:=P) (v:=v) (hn _ _ h) _ a m;rw[he];exact⟨_,rfl,trivial⟩
 .exact⟨_,rfl,XY hn _ _⟩
theorem Zl{P:Program}{v:World}(hn:∀(b:Nat)(o:Obj),v.heap[b]?=some o->wL o)(a:Addr)(u:Value)(m:Bool):∃e,v.farStore P a u m=.error e/\FN e:=by
 unfold World.farStore;split
 .rename_i h;obtain⟨e,he⟩:=JB (P:=P) (v:=v) (hn _ _ h) _ a u m;rw[he];exact⟨_,rfl,trivial⟩
 .exact⟨_,rfl,XY hn _ _⟩
theorem uz{P:Program}{X:Nat->Prop}{Y:Nat->Option Obj}{α:Type}:∀(s:Sem α)(w v:World)(es:Array Event)(x:Halt)(v':World)(rJ:Array Event),Plain P s->xE X Y w v->s.runT P v es=(.halt x v',rJ)->FN x
 | .pure a,w,v,es,x,v',rJ,_,h,hr=>by simp only[Sem.runT]at hr;cases hr
 | .load m a k,w,v,es,x,v',rJ,hp,h,hr=>by
   obtain⟨rfl,hp⟩:=hp;cases hc:v.cell? a with
   |none=>
    obtain⟨e,he,DX⟩:=abx (P:=P) h.nv a (Mode.plain==Mode.atomic);simp only[Sem.runT,hc,he]at hr;cases hr;exact DX
   |some u=>
    simp only[Sem.runT,hc]at hr;exact uz (k u) w v _ x v' rJ (hp u) h hr
 | .store m a u k,w,v,es,x,v',rJ,hp,h,hr=>by
   obtain⟨rfl,hp⟩:=hp
   have key:(∀(w:World),(Sem.store Mode.plain a u k).runT P w es=match w.cell? a with
     |some _=>if w.frozen? a then(.halt (.unsupported (.unsafePointer "a write to bytes that a string shares")) w,es)else k.runT P (w.setCell a u) (es.push ⟨.cell a,true,Mode.plain==Mode.atomic⟩)
     |none=>match w.farStore P a u (Mode.plain==Mode.atomic)with
      | .ok (w,touched)=>k.runT P w (es++touched.toArray.map (⟨.cell ·,true,Mode.plain==Mode.atomic⟩))
      | .error h=>(.halt h w,es))\/(∀(w:World),(Sem.store Mode.plain a u k).runT P w es=(.halt (.stuck "store: not the value of one cell") w,es)):=by
    exact aw4
   rcases key with key|key
   .rw[key]at hr;cases hc:v.cell? a with
    |none=>
     obtain⟨e,he,DX⟩:=Zl (P:=P) h.nv a u (Mode.plain==Mode.atomic);simp only[hc,he]at hr;cases hr;exact DX
    |some u'=>
     simp only[hc]at hr;cases hz:v.frozen? a with
     |true=>
      rw[hz]at hr;simp only[aF]at hr;cases hr;trivial
     |false=>
      rw[hz]at hr;simp only[bu,aU]at hr;exact uz k _ _ _ x v' rJ hp (h.setCell (h.afT hc).1 u) hr
   .rw[key]at hr;cases hr;trivial
 | .new o k,w,v,es,x,v',rJ,hp,h,hr=>uz (k v.heap.size) _ _ es x v' rJ (hp.2 _) (h.push hp.1) hr
 | .shape r k,w,v,es,x,v',rJ,hp,h,hr=>uz (k (v.shape? r)) w v es x v' rJ (hp.2 _) h hr
 | .freeze a n k,_,_,_,_,_,_,hp,_,_=>hp.elim
 | .frozen a k,w,v,es,x,v',rJ,hp,h,hr=>uz (k (v.frozen? a)) w v es x v' rJ (hp _) h hr
 | .getObj r k,w,v,es,x,v',rJ,hp,h,hr=>by
   cases ho:v.heap[r]? with
   |none=>simp only[Sem.runT,ho]at hr;cases hr;trivial
   |some o=>
    cases o with
    |cells c t fr=>simp only[Sem.runT,ho]at hr;cases hr;trivial
    |_=>
     simp only[Sem.runT,ho]at hr;exact uz (k _) w v _ x v' rJ (hp.2 _) h hr
 | .setObj r o k,_,_,_,_,_,_,hp,_,_=>hp.elim
 | .choose q k,w,v,es,x,v',rJ,hp,h,hr=>by
   cases hq:q.forced with
   |true=>
    simp only[Sem.runT,hq,aF]at hr;exact uz (k 0) w v es x v' rJ (hp _) h hr
   |false=>
    simp only[Sem.runT,hq,bu,aU]at hr;exact uz (k _) _ _ es x v' rJ (hp _) h.draw hr
 | .sys c k,_,_,_,_,_,_,hp,_,_=>hp.elim
 | .program k,w,v,es,x,v',rJ,hp,h,hr=>uz (k P) w v es x v' rJ hp h hr
 | .mark m k,w,v,es,x,v',rJ,hp,h,hr=>uz k w v _ x v' rJ hp.2 h hr
 | .halt y,w,v,es,x,v',rJ,hp,_,hr=>by simp only[Sem.runT]at hr;cases hr;exact hp
section
variable {P:Program}{α β:Type}
theorem qg(a:α):Plain P (pure a:Sem α):=trivial
theorem abg(a:α):Plain P (Sem.pure a):=trivial
theorem qj(s:String):Plain P (stuck s:Sem α):=trivial
theorem rF{u:Unsupported}(h:FN (.unsupported u)):Plain P (unsupported u:Sem α):=h
theorem BJ(v:Value):Plain P (goPanic v:Sem α):=trivial
theorem qh{s:Sem α}{f:α->Sem β}(h:Plain P s)(h':∀a,Plain P (f a)):Plain P (s>>=f):=Plain.bind s f h h'
theorem Qb{s:Sem α}{f:α->β}(h:Plain P s):Plain P (f<$>s):=Plain.bind s _ h λ_=>trivial
theorem MP(a:Addr):Plain P (load a):=⟨rfl,λ_=>trivial⟩
theorem Q4(a:Addr)(v:Value):Plain P (store a v):=⟨rfl,trivial⟩
theorem Ku{o:Obj}(h:wL o):Plain P (newObj o):=⟨h,λ_=>trivial⟩
theorem Oz(a:Addr):Plain P (frozen a):=λ_=>trivial
theorem Hu{r:Nat}{f:Obj->Sem β}(h:∀o o',OC o o'->f o=f o'\/qM P (f o'))(h':∀o,Plain P (f o)):Plain P (getObj r>>=f):=⟨h,h'⟩
theorem MR{f:Obj->Sem β}(h1:∀a b t,f (.view a t)=f (.view b t))(h2:∀c t,f (.pending c t)=f (.stringIter .empty 0)):∀o o',OC o o'->f o=f o'\/qM P (f o'):=by
 intro o o' g;rcases g with⟨a,t,rfl,rfl⟩|⟨c,t,rfl,rfl⟩
 .exact .inl (h1 _ _ _)
 .exact .inl (h2 _ _)
theorem JC(r:Nat):Plain P (numberAt r):=by
 refine⟨λt n=>.inr rfl,λs=>?_⟩;cases s with
 |some x=>trivial
 |none=>
  refine⟨λo o' g=>?_,λo=>?_⟩
  .rcases g with⟨a,t,rfl,rfl⟩|⟨c,t,rfl,rfl⟩<;>exact .inl rfl
  .cases o<;>trivial
theorem U3{r:Nat}{f:Option (Addr×TypeId)->Sem β}(hd:∀y,qM P (f (some y)))(hs:∀y,Plain P (f (some y)))(hn:Plain P (f none)):Plain P (viewAt r>>=f):=by
 refine⟨λt n=>.inr rfl,λs=>?_⟩;cases s with
 |some x=>exact hn
 |none=>
  refine⟨λo o' g=>?_,λo=>?_⟩
  .rcases g with⟨a,t,rfl,rfl⟩|⟨c,t,rfl,rfl⟩
   .exact .inr (hd _)
   .exact .inl rfl
  .cases o<;>first|exact hn|exact hs _
theorem OE(a:Addr):Plain P (noView a):=by
 refine⟨λt n=>.inr rfl,λs=>?_⟩;cases s with
 |some x=>trivial
 |none=>
  refine⟨λo o' g=>?_,λo=>?_⟩
  .rcases g with⟨a,t,rfl,rfl⟩|⟨c,t,rfl,rfl⟩
   .exact .inr trivial
   .exact .inl rfl
  .cases o<;>trivial
theorem uS(q:Question):Plain P (choose q):=λ_=>trivial
theorem rP:Plain P program:=trivial
theorem MQ(n:Nat):Plain P (askRoom n):=by
 unfold askRoom;split
 .exact⟨.inl rfl,trivial⟩
 .trivial
theorem qI{c:Prop}[Decidable c]{a b:Sem α}(h:Plain P a)(h':Plain P b):Plain P (if c then a else b):=by split<;>assumption
end
attribute [local irreducible] Plain
section
variable {P:Program}{α β:Type}
theorem rE(t:TypeId):Plain P (typeInfo t):=by unfold typeInfo;(repeat'(first|with_reducible(first|exact qg _|exact qj _|exact rP|(refine qh ?_ (λ_=>?_)))|split))
theorem qp(t:TypeId):Plain P (underlying t):=by unfold underlying;(repeat'(first|with_reducible(first|exact qg _|exact qj _|exact rP|(refine qh ?_ (λ_=>?_)))|split))
theorem vU(t:TypeId):Plain P (zeroValue t):=by have:=rE (P:=P) t;unfold zeroValue;(repeat'(first|with_reducible(first|assumption|exact qg _)|((with_reducible refine rF ?_);exact trivial)|with_reducible(refine qh ?_ (λ_=>?_))|split))
theorem sQ(t:TypeId):Plain P (sizeOf t):=by have:=rE (P:=P) t;unfold sizeOf;(repeat'(with_reducible first|assumption|exact qg _|(refine qh ?_ (λ_=>?_))))
theorem Q9(t:TypeId):Plain P (isAgg t):=by have:=qp (P:=P) t;unfold isAgg;(repeat'(first|with_reducible(first|assumption|exact qg _|(refine qh ?_ (λ_=>?_)))|split))
theorem Ox(t:TypeId):Plain P (elemOf t):=by have:=qp (P:=P) t;unfold elemOf;(repeat'(first|with_reducible(first|assumption|exact qg _|exact qj _|(refine qh ?_ (λ_=>?_)))|split))
theorem Dp(a:Addr):∀(n i:Nat)(acc:Array Value),Plain P (loadCellsFrom a i n acc)
 |0,_,acc=>qg acc
 |n+1,i,acc=>by unfold loadCellsFrom;exact qh (MP _) λv=>Dp a n _ _
theorem Di(a:Addr)(n:Nat):Plain P (loadCells a n):=Dp a n 0 #[]
theorem yN(a:Addr):∀(vs:List Value)(i:Nat),Plain P (storeCells a vs i)
 |[],_=>qg ()
 |v::r,i=>by unfold storeCells;exact qh (Q4 _ _) λ_=>yN a r _
theorem wK(t:TypeId)(a:Addr):Plain P (loadVar t a):=by
 have:=Q9 (P:=P) t;have:=sQ (P:=P) t;unfold loadVar
 (repeat'(with_reducible first|assumption|exact qg _|exact MP _|exact Di _ _|(refine qh ?_ (λ_=>?_))|(refine qI ?_ ?_)))
theorem Ep(t:TypeId)(a:Addr)(v:Value):Plain P (storeVar t a v):=by
 have h1:=sQ (P:=P) t;unfold storeVar
 (repeat'(with_reducible first|assumption|exact qj _|exact yN _ _ _|(refine qh ?_ (λ_=>?_))|(refine qI ?_ ?_)))
theorem U4(t:TypeId)(cs:Array Value)(fr:Nat×Nat):Plain P (newObj (.cells cs t fr)):=Ku (o:=.cells cs t fr) trivial
theorem AA(t:TypeId)(cs:Array Value):Plain P (newRow t cs):=by unfold newRow;(repeat'(with_reducible first|exact qg _|exact U4 _ _ _|(refine qh ?_ (λ_=>?_))))
theorem Az(t:TypeId)(v:Value):Plain P (newVar t v):=AA t _
theorem qX(e:RuntimeError):Plain P (runtimePanic e:Sem α):=by
 unfold runtimePanic
 (repeat'(first|with_reducible(first|exact BJ _|exact rP|exact Az _ _|exact Ox _|(refine qh ?_ (λ_=>?_)))|split))
theorem AB(k:IntKind)(x y:Int)(c:BoundsCode):Plain P (boundsPanic k x y c:Sem α):=by
 unfold boundsPanic
 (repeat'(with_reducible first|exact qg _|exact uS _|exact qX _|(refine qh ?_ (λ_=>?_))|(refine Qb ?_)|(refine qI ?_ ?_)))
theorem BK(v:Value):Plain P (asIntOf v):=by unfold asIntOf;(repeat'(first|with_reducible(first|exact qg _|exact qj _)|((with_reducible refine rF ?_);exact trivial)|split))
theorem JD(v:Value):Plain P (asInt v):=by have:=BK (P:=P) v;unfold asInt;(repeat'(with_reducible first|assumption|exact qg _|(refine qh ?_ (λ_=>?_))))
theorem DK(v:Value):Plain P (asBool v):=by unfold asBool;(repeat'(first|with_reducible(first|exact qg _|exact qj _)|split))
theorem yz(v:Value):Plain P (Instr.sureAddr v):=by unfold Instr.sureAddr;(repeat'(first|with_reducible(first|exact qg _|exact qj _)|split))
theorem DL(v:Value):Plain P (asAddr v):=by
 unfold asAddr
 (repeat'(first|with_reducible(first|exact qg _|exact qj _|exact qX _)|split))
theorem aby(t:TypeId)(b:Bool)(o:Value):Plain P (Instr.alloc t b o):=by unfold Instr.alloc;(repeat'(first|with_reducible(first|exact qg _|exact vU _|exact Ep _ _ _|exact Az _ _|(refine qh ?_ (λ_=>?_)))|split))
theorem Zm(t:TypeId)(v:Value):Plain P (Instr.loadAt t v):=by unfold Instr.loadAt;(repeat'(with_reducible first|exact wK _ _|exact yz _|(refine qh ?_ (λ_=>?_))))
theorem Wx(t:TypeId)(v u:Value):Plain P (Instr.storeAt t v u):=by unfold Instr.storeAt;(repeat'(with_reducible first|exact Ep _ _ _|exact yz _|(refine qh ?_ (λ_=>?_))))
theorem Wy(t:TypeId)(x i:Value):Plain P (Instr.indexAt t x i):=by unfold Instr.indexAt;(repeat'(first|with_reducible(first|exact qg _|exact qj _)|((with_reducible refine rF ?_);exact trivial)|with_reducible(first|exact qp _|exact sQ _|exact AB _ _ _ _|exact BK _|exact yz _|(refine qh ?_ (λ_=>?_))|(refine qI ?_ ?_))|split))
theorem Qi(x:Value)(y:Nat)(c:BoundsCode):Plain P (Instr.sliceBound x y c):=by unfold Instr.sliceBound;(repeat'(with_reducible first|exact qg _|exact AB _ _ _ _|exact BK _|(refine qh ?_ (λ_=>?_))|(refine qI ?_ ?_)))
theorem E8(b:Bool)(l c:Nat)(lo hi mx:Option Value):Plain P (Instr.sliceBounds b l c lo hi mx):=by
 unfold Instr.sliceBounds
 (repeat'(first|with_reducible(first|exact qg _|exact qj _|exact Qi _ _ _|(refine qh ?_ (λ_=>?_)))|split))
theorem abz(t:TypeId)(x:Value)(lo hi mx:Option Value):Plain P (Instr.slice t x lo hi mx):=by
 unfold Instr.slice
 (repeat'(first|with_reducible(first|exact qg _|exact qj _|exact E8 _ _ _ _ _ _|exact qp _|exact sQ _|exact DL _|(refine qh ?_ (λ_=>?_))|(refine qI ?_ ?_))|split))
theorem WA(t:TypeId)(x:Value)(lo hi mx:Option Value):Plain P (Instr.sliceAt t x lo hi mx):=by
 unfold Instr.sliceAt
 (repeat'(first|with_reducible(first|exact qg _|exact E8 _ _ _ _ _ _|exact abz _ _ _ _ _|exact qp _|exact sQ _|exact yz _|(refine qh ?_ (λ_=>?_)))|split))
theorem Sv(t:TypeId)(l c:Value):Plain P (Instr.makeSlice t l c):=by unfold Instr.makeSlice;(repeat'(first|with_reducible(first|exact qg _|exact qj _|exact uS _|exact MQ _|exact rE _|exact qp _|exact vU _|exact sQ _|exact AA _ _|exact qX _|exact JD _|(refine qh ?_ (λ_=>?_))|(refine qI ?_ ?_))|split))
theorem WB(t:Value)(i:Nat):Plain P (Instr.extract t i):=by unfold Instr.extract;(repeat'(first|with_reducible(first|exact qg _|exact qj _)|split))
theorem abA(o:UnOp)(x:Value):Plain P (Op.unary o x):=by unfold Op.unary Op.intArith Op.intBits;(repeat'(first|with_reducible(first|exact qg _|exact qj _)|((with_reducible refine rF ?_);exact trivial)|split))
theorem JE{r:Nat}{f:Option (TypeId×Nat)->Sem β}(h:∀t n,qM P (f (some (t,0)))\/f (some (t,n))=f (some (t,0)))(h':∀s,Plain P (f s)):Plain P (shape r>>=f):=by unfold Plain;exact⟨h,h'⟩
theorem Hw(a:Addr):Plain P (behindNumber a):=by unfold behindNumber;(repeat'(with_reducible first|exact qg _|exact JC _|(refine qh ?_ (λ_=>?_))))
theorem DN(a:Addr):Plain P (byteOf a):=by
 unfold byteOf;split
 ·(repeat'(with_reducible exact qg _))
 refine qh rP λp=>qh (OE a) λ_=>JE (λ_ _=>.inr rfl) λs=>?_
 (repeat'(first|with_reducible(first|exact qg _|exact qj _|(refine qI ?_ ?_))|split))
theorem Zn(a:Addr)(c b:Nat):Plain P (partAt a c b):=by unfold partAt;(repeat'(with_reducible first|exact qg _|exact DN _|(refine qh ?_ (λ_=>?_))))
theorem Gs(a:Addr)(f:Field):Plain P (fieldPlace a f):=by unfold fieldPlace;(repeat'(with_reducible first|exact qg _|exact Zn _ _ _|exact sQ _|(refine qh ?_ (λ_=>?_))|(refine qI ?_ ?_)))
theorem WC(t:TypeId)(x:Value)(f:Nat):Plain P (Instr.fieldAt t x f):=by unfold Instr.fieldAt;(repeat'(first|with_reducible(first|exact qg _|exact qj _|exact Gs _ _|exact qp _|exact yz _|(refine qh ?_ (λ_=>?_)))|split))
theorem yA(t:TypeId)(cs:Array Value)(o:Nat):Plain P (part t cs o):=by unfold part;(repeat'(first|with_reducible(first|exact qg _|exact qj _|exact sQ _|exact Q9 _|(refine qh ?_ (λ_=>?_))|(refine qI ?_ ?_))|split))
theorem abB(v:Value):Plain P (asAgg v):=by unfold asAgg;(repeat'(first|with_reducible(first|exact qg _|exact qj _)|split))
theorem abC(t:TypeId)(x:Value)(f:Nat):Plain P (Instr.field t x f):=by unfold Instr.field;(repeat'(first|with_reducible(first|exact qj _|exact qp _|exact yA _ _ _|exact abB _|(refine qh ?_ (λ_=>?_)))|split))
theorem abD(t:TypeId)(x i:Value):Plain P (Instr.index t x i):=by unfold Instr.index;(repeat'(first|with_reducible(first|exact qg _|exact qj _|exact qp _|exact yA _ _ _|exact sQ _|exact BK _|exact AB _ _ _ _|(refine qh ?_ (λ_=>?_))|(refine qI ?_ ?_))|split))
theorem Qj(t:TypeId)(n:Nat)(ps:Array (Nat×Value)):Plain P (Instr.buildSlice t n ps):=by unfold Instr.buildSlice;(repeat'(first|with_reducible(first|exact qg _|exact qj _)|((with_reducible refine rF ?_);exact trivial)|with_reducible(first|exact qp _|exact vU _|exact sQ _|exact AA _ _|(refine qh ?_ (λ_=>?_))|(refine qI ?_ ?_))|split|(dsimp only)))
theorem agx(t:TypeId)(v:Value):Plain P (Instr.box t v):=by unfold Instr.box;(repeat'(with_reducible first|exact qg _|exact Az _ _|(refine qh ?_ (λ_=>?_))))
theorem Q_(v:Value):Plain P (Builtin.lenOf v):=by unfold Builtin.lenOf;(repeat'(first|with_reducible(first|exact qg _|exact qj _)|split))
theorem Gt(a b:Nat)(v:Value):Plain P (Builtin.firstCells a b v):=by unfold Builtin.firstCells;(repeat'(first|with_reducible(first|exact qg _|exact qj _|exact Di _ _)|split))
theorem adE(ts:Array TypeId)(t:TypeId)(atO:Array Value):Plain P (Builtin.copy_ ts t atO):=by unfold Builtin.copy_;(repeat'(first|with_reducible(first|exact qg _|exact qj _|exact qp _|exact Q_ _|exact Gt _ _ _|exact sQ _|exact yN _ _ _|(refine qh ?_ (λ_=>?_)))|split))
theorem agy(ts:Array TypeId)(t:TypeId)(atO:Array Value):Plain P (Builtin.len_ ts t atO):=by unfold Builtin.len_;(repeat'(first|with_reducible(first|exact qg _|exact qj _|exact qp _)|((with_reducible refine Hu ?_ ?_);(focus(exact MR (λ_ _ _=>rfl) (λ_ _=>rfl)));(intro _))|with_reducible(refine qh ?_ (λ_=>?_))|split))
theorem agz(ts:Array TypeId)(t:TypeId)(atO:Array Value):Plain P (Builtin.cap_ ts t atO):=by unfold Builtin.cap_;(repeat'(first|with_reducible(first|exact qg _|exact qj _|exact qp _)|((with_reducible refine Hu ?_ ?_);(focus(exact MR (λ_ _ _=>rfl) (λ_ _=>rfl)));(intro _))|with_reducible(refine qh ?_ (λ_=>?_))|split))

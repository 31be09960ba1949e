import Derived.Test.YtnbflnamlpodcaaGreatDoorAa
namespace Go.Lf
def wX:Obj->Prop
 | .view a _=>a.spot.isSome=true
 | .pending ..=>False
 |_=>True
def Px(o o':Obj):Prop:=
 (∃a t,o=.view a t/\o'=.view ⟨0,0,some default⟩ t)\/(∃c t,o=.pending c t/\o'=.stringIter .empty 0)
theorem Px.nv{o o':Obj}(h:Px o o'):wX o':=by
 rcases h with⟨a,t,_,rfl⟩|⟨c,t,_,rfl⟩
 .rfl
 .trivial
def Gs:Halt->Prop
 | .panic _=>True
 | .stuck _=>True
 | .unsupported (.initOrder _)=>False
 | .unsupported _=>True
 |_=>False
def qW(P:aN){α:Type}:Sem α->Prop
 | .pure _=>False
 | .load _ _ k=>∀v,qW P (k v)
 | .store _ _ _ k=>qW P k
 | .new _ k=>∀r,qW P (k r)
 | .shape _ k=>∀s,qW P (k s)
 | .freeze _ _ k=>qW P k
 | .frozen _ k=>∀b,qW P (k b)
 | .getObj _ k=>∀o,qW P (k o)
 | .setObj _ _ k=>qW P k
 | .choose _ k=>∀n,qW P (k n)
 | .sys _ k=>∀r,qW P (k r)
 | .program k=>qW P (k P)
 | .mark _ k=>qW P k
 | .halt _=>True
def ad8(m:Mark):Prop:=m=.noRoom\/∃f,m=.extern f
def Plain(P:aN){α:Type}:Sem α->Prop
 | .pure _=>True
 | .load m _ k=>m=.plain/\∀v,Plain P (k v)
 | .store m _ _ k=>m=.plain/\Plain P k
 | .new o k=>wX o/\∀r,Plain P (k r)
 | .shape _ k=>(∀t n,qW P (k (some (t,0)))\/k (some (t,n))=k (some (t,0)))/\∀s,Plain P (k s)
 | .freeze _ _ _=>False
 | .frozen _ k=>∀b,Plain P (k b)
 | .getObj _ k=>(∀o o',Px o o'->k o=k o'\/qW P (k o'))/\∀o,Plain P (k o)
 | .setObj _ _ _=>False
 | .choose _ k=>∀n,Plain P (k n)
 | .sys _ _=>False
 | .program k=>Plain P (k P)
 | .mark m k=>ad8 m/\Plain P k
 | .halt h=>Gs h
section
variable {P:aN}{α β:Type}
theorem qW.bind:∀(s:Sem α)(f:α->Sem β),qW P s->qW P (s.bind f)
 | .pure _,_,h=>h.elim
 | .load _ _ k,f,h=>λv=>qW.bind (k v) f (h v)
 | .store _ _ _ k,f,h=>qW.bind k f h
 | .new _ k,f,h=>λv=>qW.bind (k v) f (h v)
 | .shape _ k,f,h=>λv=>qW.bind (k v) f (h v)
 | .freeze _ _ k,f,h=>qW.bind k f h
 | .frozen _ k,f,h=>λv=>qW.bind (k v) f (h v)
 | .getObj _ k,f,h=>λv=>qW.bind (k v) f (h v)
 | .setObj _ _ k,f,h=>qW.bind k f h
 | .choose _ k,f,h=>λv=>qW.bind (k v) f (h v)
 | .sys _ k,f,h=>λv=>qW.bind (k v) f (h v)
 | .program k,f,h=>qW.bind (k P) f h
 | .mark _ k,f,h=>qW.bind k f h
 | .halt _,_,_=>trivial
theorem qW.late:∀(s:Sem α)(f:α->Sem β),(∀a,qW P (f a))->qW P (s.bind f)
 | .pure a,_,h=>h a
 | .load _ _ k,f,h=>λv=>qW.late (k v) f h
 | .store _ _ _ k,f,h=>qW.late k f h
 | .new _ k,f,h=>λv=>qW.late (k v) f h
 | .shape _ k,f,h=>λv=>qW.late (k v) f h
 | .freeze _ _ k,f,h=>qW.late k f h
 | .frozen _ k,f,h=>λv=>qW.late (k v) f h
 | .getObj _ k,f,h=>λv=>qW.late (k v) f h
 | .setObj _ _ k,f,h=>qW.late k f h
 | .choose _ k,f,h=>λv=>qW.late (k v) f h
 | .sys _ k,f,h=>λv=>qW.late (k v) f h
 | .program k,f,h=>qW.late (k P) f h
 | .mark _ k,f,h=>qW.late k f h
 | .halt _,_,_=>trivial
theorem Plain.bind:∀(s:Sem α)(f:α->Sem β),Plain P s->(∀a,Plain P (f a))->Plain P (s.bind f)
 | .pure a,_,_,h=>h a
 | .load _ _ k,f,h,h'=>⟨h.1,λv=>Plain.bind (k v) f (h.2 v) h'⟩
 | .store _ _ _ k,f,h,h'=>⟨h.1,Plain.bind k f h.2 h'⟩
 | .new _ k,f,h,h'=>⟨h.1,λv=>Plain.bind (k v) f (h.2 v) h'⟩
 | .shape _ k,f,h,h'=>⟨λt n=>(h.1 t n).imp (qW.bind _ f) (λe=>bI (λs=>Sem.bind s f) e),λv=>Plain.bind (k v) f (h.2 v) h'⟩
 | .freeze _ _ _,_,h,_=>h.elim
 | .frozen _ k,f,h,h'=>λv=>Plain.bind (k v) f (h v) h'
 | .getObj _ k,f,h,h'=>⟨λo o' g=>(h.1 o o' g).imp (λe=>bI (λs=>Sem.bind s f) e) (qW.bind _ f),λv=>Plain.bind (k v) f (h.2 v) h'⟩
 | .setObj _ _ _,_,h,_=>h.elim
 | .choose _ k,f,h,h'=>λv=>Plain.bind (k v) f (h v) h'
 | .sys _ _,_,h,_=>h.elim
 | .program k,f,h,h'=>Plain.bind (k P) f h h'
 | .mark _ k,f,h,h'=>⟨h.1,Plain.bind k f h.2 h'⟩
 | .halt _,_,h,_=>h
theorem sK:∀(s:Sem α),qW P s->∀(w:ah)(es:aH),∃h w' rZ,s.runT P w es=(.halt h w',rZ)
 | .pure _,h,_,_=>h.elim
 | .load m a k,h,w,es=>by
   unfold Sem.runT;cases w.cell? a with
   |some v=>exact sK (k v) (h v) _ _
   |none=>
    dsimp only;cases w.farLoad P a (m==.atomic)with
    |ok r=>exact sK (k r.1) (h r.1) _ _
    |error e=>exact⟨_,_,_,rfl⟩
 | .store m a v k,h,w,es=>by
   cases v<;>first
    |exact⟨_,_,_,rfl⟩
    |(unfold Sem.runT
      cases w.cell? a with
      |some u=>
       dsimp only;split
       .exact⟨_,_,_,rfl⟩
       .exact sK k h _ _
      |none=>
       dsimp only;cases w.farStore P a _ (m==.atomic)with
       |ok r=>exact sK k h _ _
       |error e=>exact⟨_,_,_,rfl⟩)
 | .new o k,h,w,es=>sK (k w.heap.size) (h _) _ es
 | .shape r k,h,w,es=>sK (k (w.shape? r)) (h _) w es
 | .freeze a n k,h,w,es=>sK k h (w.freeze a n) es
 | .frozen a k,h,w,es=>sK (k (w.frozen? a)) (h _) w es
 | .getObj r k,h,w,es=>by
   unfold Sem.runT;split
   .exact⟨_,_,_,rfl⟩
   .exact sK (k _) (h _) _ _
   .exact⟨_,_,_,rfl⟩
 | .setObj r o k,h,w,es=>by
   unfold Sem.runT;split
   .exact⟨_,_,_,rfl⟩
   .exact sK k h _ _
   .exact⟨_,_,_,rfl⟩
 | .choose q k,h,w,es=>by
   unfold Sem.runT;split
   .exact sK (k 0) (h _) _ _
   .exact sK (k _) (h _) _ _
 | .sys c k,h,w,es=>sK (k (w.sys c).1) (h _) (w.sys c).2 _
 | .program k,h,w,es=>sK (k P) h w es
 | .mark m k,h,w,es=>sK k h w _
 | .halt x,_,w,es=>⟨x,w,es,rfl⟩
end
structure xZ(X:Nat->Prop)(Y:Nat->aV)(w v:ah):Prop where
 size:w.heap.size=v.heap.size
 bound:∀b,X b\/(Y b).isSome=true->b<v.heap.size
 same:∀b,¬X b->Y b=none->w.heap[b]?=v.heap[b]?
 gho:∀b o,Y b=some o->∃o',w.heap[b]?=some o/\v.heap[b]?=some o'/\Px o o'
 doc:∀b,X b->∃cs t fr,w.heap[b]?=some (.cells cs t fr)/\v.heap[b]?=some (.cells #[] t fr)
 nv:∀(b:Nat)(o:Obj),v.heap[b]?=some o->wX o
 os:w.os=v.os
 out:w.output=v.output
 str:∀i q,w.tape (w.drawn+i) q=v.tape (v.drawn+i) q
 unf:∀b cs t fr,X b->v.heap[b]?=some (.cells cs t fr)->fr=(0,0)
def EvP(X:Nat->Prop)(w:ah)(e:Event):Prop:=
 (∃a wr,e=⟨.cell a,wr,false⟩/\a.block<w.heap.size/\¬X a.block)\/(∃r wr sy,e=⟨.obj r,wr,sy⟩/\r<w.heap.size/\¬X r)\/∃m,ad8 m/\e=⟨.mark m,false,true⟩
section
variable {X:Nat->Prop}{Y:Nat->aV}{w v:ah}
theorem EvP.grow{w':ah}{e:Event}(h:EvP X w e)(hs:w.heap.size<=w'.heap.size):EvP X w' e:=by
 rcases h with⟨a,wr,h1,h2,h3⟩|⟨r,wr,sy,h1,h2,h3⟩|h
 .exact .inl ⟨a,wr,h1,ag,h3⟩
 .exact .inr (.inl ⟨r,wr,sy,h1,ag,h3⟩)
 .exact .inr (.inr h)
theorem xZ.agC(h:xZ X Y w v){a:Addr}{u:ai}(hc:v.cell? a=some u):¬X a.block/\Y a.block=none/\a.block<v.heap.size:=by
 unfold World.cell? at hc;refine⟨λhx=>?_,?_,?_⟩
 .obtain⟨cs,t,fr,_,h2⟩:=h.doc _ hx;rw[h2]at hc;dsimp only at hc;split at hc<;>simp at hc
 .cases hy:Y a.block with
  |none=>rfl
  |some o=>
   obtain⟨o',_,h2,hg⟩:=h.gho _ _ hy;rw[h2]at hc;rcases hg with⟨b,t,_,rfl⟩|⟨c,t,_,rfl⟩<;>cases hc
 .cases hb:v.heap[a.block]? with
  |none=>rw[hb]at hc;simp at hc
  |some o=>exact(dh.1 hb).1
theorem xZ.cell(h:xZ X Y w v){a:Addr}(hx:¬X a.block)(hy:Y a.block=none):w.cell? a=v.cell? a:=by unfold World.cell?;rw[h.same _ hx hy]
theorem xZ.frozen(h:xZ X Y w v)(a:Addr):w.frozen? a=v.frozen? a:=by
 unfold World.frozen?;by_cases hx:X a.block
 .obtain⟨cs,t,fr,h1,h2⟩:=h.doc _ hx;rw[h1,h2]
 .cases hy:Y a.block with
  |some o=>
   obtain⟨o',h1,h2,hg⟩:=h.gho _ _ hy;rw[h1,h2];rcases hg with⟨b,t,rfl,rfl⟩|⟨c,t,rfl,rfl⟩<;>rfl
  |none=>rw[h.same _ hx hy]
theorem YG{P:aN}{v:ah}{b:Addr}(hb:b.spot.isSome=true)(t:aF)(a:Addr)(m:Bool):∃e,v.seen P b t a m=.error e:=by unfold World.seen;rw[hb,Bool.or_true];exact⟨_,rfl⟩
theorem MX{P:aN}{v:ah}{b:Addr}(hb:b.spot.isSome=true)(t:aF)(a:Addr)(m:Bool):∃e,v.viewLoad P b t a m=.error e:=by obtain⟨e,he⟩:=YG (P:=P) (v:=v) hb t a m;unfold World.viewLoad;exact ayv
theorem J3{P:aN}{v:ah}{b:Addr}(hb:b.spot.isSome=true)(t:aF)(a:Addr)(u:ai)(m:Bool):∃e,v.viewStore P b t a u m=.error e:=by
 obtain⟨e,he⟩:=YG (P:=P) (v:=v) hb t a m;unfold World.viewStore;cases tight P P.depth t with
 |false=>exact⟨_,rfl⟩
 |true=>
  exact ayv
theorem Py{P:aN}(hn:∀(b:Nat)(o:Obj),v.heap[b]?=some o->wX o)(a:Addr)(m:Bool):∃e,v.farLoad P a m=.error e:=by
 unfold World.farLoad;split
 .rename_i h;obtain⟨e,he⟩:=MX (P:=P) (v:=v) (hn _ _ h) _ a m;exact ayv
 .exact⟨_,rfl⟩
theorem MZ{P:aN}(hn:∀(b:Nat)(o:Obj),v.heap[b]?=some o->wX o)(a:Addr)(u:ai)(m:Bool):∃e,v.farStore P a u m=.error e:=by
 unfold World.farStore;split
 .rename_i h;obtain⟨e,he⟩:=J3 (P:=P) (v:=v) (hn _ _ h) _ a u m;exact ayv
 .exact⟨_,rfl⟩
theorem xZ.modify(h:xZ X Y w v)(b:Nat)(f:Obj->Obj)(hf:∀o,wX o->wX (f o))(hg:∀o o',Px o o'->f o=o/\f o'=o')(hc:¬X b):
  xZ X Y {w with heap:=w.heap.modify b f} {v with heap:=v.heap.modify b f}:=by
 refine⟨kG,λx hx=>by simpa using h.bound x hx,λx hx hy=>?_,λx o hy=>?_,λx hx=>?_,λx o hx=>?_,h.os,h.out,h.str,λx cs t fr hx hb=>?_⟩
 .simp only[iJ,h.same x hx hy]
 .obtain⟨o',h1,h2,h3⟩:=h.gho x o hy;refine⟨o',?_,?_,h3⟩
  .simp only[iJ,h1];split<;>simp[(hg o o' h3).1]
  .simp only[iJ,h2];split<;>simp[(hg o o' h3).2]
 .obtain⟨cs,t,fr,h1,h2⟩:=h.doc x hx;simp only[iJ,h1,h2];by_cases hb:b=x
  .subst hb;exact absurd hx hc
  .simp only[au hb];exact⟨cs,t,fr,rfl,rfl⟩
 .simp only[iJ]at hx;by_cases hb:b=x
  .subst hb;simp only[aX,dL]at hx;obtain⟨o',h1,rfl⟩:=hx;exact hf o' (h.nv _ _ h1)
  .rw[au hb]at hx;exact h.nv _ _ hx
 .simp only[iJ]at hb;by_cases hbx:b=x
  .subst hbx;exact absurd hx hc
  .rw[au hbx]at hb;exact h.unf x cs t fr hx hb
theorem xZ.setCell(h:xZ X Y w v){a:Addr}(hx:¬X a.block)(u:ai):xZ X Y (w.setCell a u) (v.setCell a u):=
 h.modify a.block _ (λo ho=>by cases o<;>first|exact ho|trivial) (λo o' hg=>by rcases hg with⟨b,t,rfl,rfl⟩|⟨c,t,rfl,rfl⟩<;>exact⟨rfl,rfl⟩) hx
theorem xZ.push(h:xZ X Y w v){o:Obj}(ho:wX o):xZ X Y {w with heap:=w.heap.push o} {v with heap:=v.heap.push o}:=by
 refine⟨kG,λb hb=>by have:=h.bound b hb;simp;omega,λb hb hy=>?_,λb o hy=>?_,λb hb=>?_,λb o' hb=>?_,h.os,h.out,h.str,λb cs t fr hx hb=>?_⟩
 .simp only[iI,h.size,h.same b hb hy]
 .rename_i oo;obtain⟨o2,h1,h2,h3⟩:=h.gho b _ hy;have qK:=h.bound b (.inr (by rw[hy];rfl));refine⟨o2,?_,?_,h3⟩
  .rw[iI,au avv];exact h1
  .rw[iI,au ag];exact h2
 .obtain⟨cs,t,fr,h1,h2⟩:=h.doc b hb;have qK:=h.bound b (.inl hb);refine⟨cs,t,fr,?_,?_⟩
  .rw[iI,au avv];exact h1
  .rw[iI,au ag];exact h2
 .simp only[iI]at hb;split at hb
  .cases hb;exact ho
  .exact h.nv b o' hb
 .have qK:=h.bound b (.inl hx);simp only[iI]at hb;rw[au ag]at hb;exact h.unf b cs t fr hx hb
theorem xZ.draw(h:xZ X Y w v):xZ X Y {w with drawn:=w.drawn+1} {v with drawn:=v.drawn+1}:=
 ⟨h.size,h.bound,h.same,h.gho,h.doc,h.nv,h.os,h.out,λi q=>by have:=h.str (i+1) q;simpa[dW,jy 1 i]using this,h.unf⟩
end
theorem vX{P:aN}{X:Nat->Prop}{Y:Nat->aV}{α:Type}:∀(s:Sem α)(w v:ah)(es:aH)(x:α)(v':ah)(rZ:aH),Plain P s->xZ X Y w v->s.runT P v es=(.ok x v',rZ)->
  ∃w',s.runT P w es=(.ok x w',rZ)/\xZ X Y w' v'/\v.heap.size<=v'.heap.size/\∀e∈rZ,e∈es\/EvP X w' e
 | .pure a,w,v,es,x,v',rZ,_,h,hr=>by simp only[Sem.runT,nH,Result.ok.injEq]at hr;obtain⟨⟨rfl,rfl⟩,rfl⟩:=hr;exact⟨w,rfl,h,az _,λe he=>.inl he⟩
 | .load m a k,w,v,es,x,v',rZ,hp,h,hr=>by
   obtain⟨rfl,hp⟩:=hp;cases hc:v.cell? a with
   |none=>
    obtain⟨e,he⟩:=Py (P:=P) h.nv a (Mode.plain==Mode.atomic);simp only[Sem.runT,hc,he]at hr;cases hr
   |some u=>
    obtain⟨hx,hy,qK⟩:=h.agC hc;simp only[Sem.runT,hc]at hr;obtain⟨w',h1,h2,h3,h4⟩:=vX (k u) w v _ x v' rZ (hp u) h hr;refine⟨w',by simp only[Sem.runT,h.cell hx hy,hc];exact h1,h2,h3,λe he=>?_⟩;rcases h4 e he with h5|h5
    .rcases kV.1 h5 with h6|rfl
     .exact .inl h6
     .exact .inr (.inl ⟨a,false,rfl,by rw[h2.size];omega,hx⟩)
    .exact .inr h5
 | .store m a u k,w,v,es,x,v',rZ,hp,h,hr=>by
   obtain⟨rfl,hp⟩:=hp
   have key:(∀(w:ah),(Sem.store Mode.plain a u k).runT P w es=match w.cell? a with
     |some _=>if w.frozen? a then(.halt (.unsupported (.unsafePointer "a write to bytes that a string shares")) w,es)else k.runT P (w.setCell a u) (es.push ⟨.cell a,true,Mode.plain==Mode.atomic⟩)
     |none=>match w.farStore P a u (Mode.plain==Mode.atomic)with
      | .ok (w,touched)=>k.runT P w (es++touched.toArray.map (⟨.cell ·,true,Mode.plain==Mode.atomic⟩))
      | .error h=>(.halt h w,es))\/(∀(w:ah),(Sem.store Mode.plain a u k).runT P w es=(.halt (.stuck "store: not the value of one cell") w,es)):=by
    exact ayG
   rcases key with key|key
   .rw[key]at hr;cases hc:v.cell? a with
    |none=>
     obtain⟨e,he⟩:=MZ (P:=P) h.nv a u (Mode.plain==Mode.atomic);simp only[hc,he]at hr;cases hr
    |some u'=>
     obtain⟨hx,hy,qK⟩:=h.agC hc;simp only[hc]at hr;cases hz:v.frozen? a with
     |true=>rw[hz]at hr;simp at hr
     |false=>
      rw[hz]at hr;simp only[dC,bQ]at hr;obtain⟨w',h1,h2,h3,h4⟩:=vX k (w.setCell a u) (v.setCell a u) _ x v' rZ hp (h.setCell hx u) hr;refine⟨w',by rw[key];simp only[h.cell hx hy,hc,h.frozen,hz,dC,bQ];exact h1,h2,axh,λe he=>?_⟩;rcases h4 e he with h5|h5
      .rcases kV.1 h5 with h6|rfl
       .exact .inl h6
       .refine .inr (.inl ⟨a,true,rfl,?_,hx⟩);have:v.heap.size<=v'.heap.size:=axh;rw[h2.size];omega
      .exact .inr h5
   .rw[key]at hr;cases hr
 | .new o k,w,v,es,x,v',rZ,hp,h,hr=>by simp only[Sem.runT]at hr;obtain⟨w',h1,h2,h3,h4⟩:=vX (k v.heap.size) _ _ es x v' rZ (hp.2 _) (h.push hp.1) hr;refine⟨w',by simp only[Sem.runT,h.size];exact h1,h2,?_,h4⟩;simp at h3;omega
 | .shape r k,w,v,es,x,v',rZ,hp,h,hr=>by
   simp only[Sem.runT]at hr;by_cases hx:X r
   .obtain⟨cs,t,fr,e1,e2⟩:=h.doc r hx;have s2:v.shape? r=some (t,0):=by simp[World.shape?,e2]
    have s1:w.shape? r=some (t,cs.size):=by simp[World.shape?,e1]
    rw[s2]at hr;rcases hp.1 t cs.size with hd|he
    .obtain⟨y,w',aur,hh⟩:=sK (k (some (t,0))) hd v es;rw[hh]at hr;cases hr
    .obtain⟨w',h1,h2,h3,h4⟩:=vX (k (some (t,0))) w v es x v' rZ (hp.2 _) h hr;exact⟨w',by simp only[Sem.runT,s1,he];exact h1,h2,h3,h4⟩
   .have e:w.shape? r=v.shape? r:=by
     cases hy:Y r with
     |some o=>
      obtain⟨o',h1,h2,hg⟩:=h.gho _ _ hy;simp only[World.shape?,h1,h2];rcases hg with⟨b,t,rfl,rfl⟩|⟨c,t,rfl,rfl⟩<;>rfl
     |none=>simp only[World.shape?,h.same r hx hy]
    obtain⟨w',h1,h2,h3,h4⟩:=vX (k (v.shape? r)) w v es x v' rZ (hp.2 _) h hr;exact⟨w',by simp only[Sem.runT,e];exact h1,h2,h3,h4⟩
 | .freeze a n k,_,_,_,_,_,_,hp,_,_=>hp.elim
 | .frozen a k,w,v,es,x,v',rZ,hp,h,hr=>by simp only[Sem.runT]at hr;obtain⟨w',h1,h2,h3,h4⟩:=vX (k (v.frozen? a)) w v es x v' rZ (hp _) h hr;exact⟨w',by simp only[Sem.runT,h.frozen];exact h1,h2,h3,h4⟩
 | .getObj r k,w,v,es,x,v',rZ,hp,h,hr=>by
   by_cases hx:X r
   .obtain⟨cs,t,fr,_,e2⟩:=h.doc r hx;simp only[Sem.runT,e2]at hr;cases hr
   .rcases hy:Y r with _|o
    case some=>
     obtain⟨o',h1,h2,hg⟩:=h.gho r o hy;have qK:=(dh.1 h2).1
     have ev:∀(u:ah)(q:Obj),u.heap[r]?=some q->(∀c t fr,q≠.cells c t fr)->(Sem.getObj r k).runT P u es=(k q).runT P u (es.push ⟨.obj r,false,q.isChan⟩):=λu q hu hq=>by cases q<;>first|exact absurd rfl (hq _ _ _)|simp only[Sem.runT,hu]
     have n1:∀c t fr,o≠.cells c t fr:=by rcases hg with⟨b,t,rfl,rfl⟩|⟨c,t,rfl,rfl⟩<;>(intro _ _ _ hh;cases hh)
     have n2:∀c t fr,o'≠.cells c t fr:=by rcases hg with⟨b,t,rfl,rfl⟩|⟨c,t,rfl,rfl⟩<;>(intro _ _ _ hh;cases hh)
     rw[ev v o' h2 n2]at hr;rcases hp.1 o o' hg with he|hd
     .have hi:o.isChan=o'.isChan:=by rcases hg with⟨b,t,rfl,rfl⟩|⟨c,t,rfl,rfl⟩<;>rfl
      obtain⟨w',h3,h4,h5,h6⟩:=vX (k o') w v _ x v' rZ (hp.2 _) h hr;refine⟨w',by rw[ev w o h1 n1,he,hi];exact h3,h4,h5,λe he=>?_⟩;rcases h6 e he with h7|h7
      .rcases kV.1 h7 with h8|rfl
       .exact .inl h8
       .exact .inr (.inr (.inl ⟨r,_,_,rfl,by rw[h4.size];omega,hx⟩))
      .exact .inr h7
     .obtain⟨y,w',aur,hh⟩:=sK (k o') hd v (es.push ⟨.obj r,false,o'.isChan⟩);rw[hh]at hr;cases hr
    have e:=h.same r hx hy;cases ho:v.heap[r]? with
    |none=>simp only[Sem.runT,ho]at hr;cases hr
    |some o=>
     have qK:=(dh.1 ho).1;cases o with
     |cells c t fr=>simp only[Sem.runT,ho]at hr;cases hr
     |_=>
      simp only[Sem.runT,ho]at hr;obtain⟨w',h1,h2,h3,h4⟩:=vX (k _) w v _ x v' rZ (hp.2 _) h hr;refine⟨w',by simp only[Sem.runT,e,ho];exact h1,h2,h3,λe he=>?_⟩;rcases h4 e he with h5|h5
      .rcases kV.1 h5 with h6|rfl
       .exact .inl h6
       .exact .inr (.inr (.inl ⟨r,_,_,rfl,by rw[h2.size];omega,hx⟩))
      .exact .inr h5
 | .setObj r o k,_,_,_,_,_,_,hp,_,_=>hp.elim
 | .choose q k,w,v,es,x,v',rZ,hp,h,hr=>by
   have e:w.tape w.drawn q=v.tape v.drawn q:=by simpa using h.str 0 q
   cases hq:q.forced with
   |true=>
    simp only[Sem.runT,hq,aX]at hr;obtain⟨w',h1,h2,h3,h4⟩:=vX (k 0) w v es x v' rZ (hp _) h hr;exact⟨w',by simp only[Sem.runT,hq,aX];exact h1,h2,h3,h4⟩
   |false=>
    simp only[Sem.runT,hq,dC,bQ]at hr;obtain⟨w',h1,h2,h3,h4⟩:=vX (k _) _ _ es x v' rZ (hp _) h.draw hr;exact⟨w',by simp only[Sem.runT,hq,dC,bQ,e];exact h1,h2,h3,h4⟩
 | .sys c k,_,_,_,_,_,_,hp,_,_=>hp.elim
 | .program k,w,v,es,x,v',rZ,hp,h,hr=>by simp only[Sem.runT]at hr;obtain⟨w',h1,h2,h3,h4⟩:=vX (k P) w v es x v' rZ hp h hr;exact⟨w',h1,h2,h3,h4⟩
 | .mark m k,w,v,es,x,v',rZ,hp,h,hr=>by
   obtain⟨hm,hp⟩:=hp;simp only[Sem.runT]at hr;obtain⟨w',h1,h2,h3,h4⟩:=vX k w v _ x v' rZ hp h hr;refine⟨w',h1,h2,h3,λe he=>?_⟩;rcases h4 e he with h5|h5
   .rcases kV.1 h5 with h6|rfl
    .exact .inl h6
    .exact .inr (.inr (.inr ⟨m,hm,rfl⟩))
   .exact .inr h5
 | .halt _,_,_,_,_,_,_,_,_,hr=>awj
theorem xZ.self{v:ah}(hn:∀(b:Nat)(o:Obj),v.heap[b]?=some o->wX o):xZ (λ_=>False) (λ_=>none) v v:=⟨rfl,λ_ h=>h.elim (λh=>h.elim) (λh=>f_),λ_ _ _=>rfl,λ_ _ h=>f_,λ_ h=>h.elim,hn,rfl,rfl,λ_ _=>rfl,λ_ _ _ _ h=>h.elim⟩
theorem wM{P:aN}{α:Type}:∀(s:Sem α)(v:ah)(es:aH)(x:α)(v':ah)(rZ:aH),Plain P s->(∀(b:Nat)(o:Obj),v.heap[b]?=some o->wX o)->s.runT P v es=(.ok x v',rZ)->
  v'.tape=v.tape/\v.drawn<=v'.drawn/\∀τ:Nat->Question->Nat,(∀p,v.drawn<=p->p<v'.drawn->τ p=v.tape p)->s.runT P {v with tape:=τ} es=(.ok x {v' with tape:=τ},rZ)
 | .pure a,v,es,x,v',rZ,_,_,hr=>by simp only[Sem.runT,nH,Result.ok.injEq]at hr;obtain⟨⟨rfl,rfl⟩,rfl⟩:=hr;exact⟨rfl,az _,λ_ _=>rfl⟩
 | .load m a k,v,es,x,v',rZ,hp,hn,hr=>by
   obtain⟨rfl,hp⟩:=hp;cases hc:v.cell? a with
   |none=>
    obtain⟨e,he⟩:=Py (P:=P) hn a (Mode.plain==Mode.atomic);simp only[Sem.runT,hc,he]at hr;cases hr
   |some u=>
    simp only[Sem.runT,hc]at hr;obtain⟨h1,h2,h3⟩:=wM (k u) v _ x v' rZ (hp u) hn hr;refine⟨h1,h2,λτ hτ=>?_⟩;have:({v with tape:=τ}:ah).cell? a=some u:=hc;simp only[Sem.runT,this];exact h3 τ hτ
 | .store m a u k,v,es,x,v',rZ,hp,hn,hr=>by
   obtain⟨rfl,hp⟩:=hp
   have key:(∀(w:ah),(Sem.store Mode.plain a u k).runT P w es=match w.cell? a with
     |some _=>if w.frozen? a then(.halt (.unsupported (.unsafePointer "a write to bytes that a string shares")) w,es)else k.runT P (w.setCell a u) (es.push ⟨.cell a,true,Mode.plain==Mode.atomic⟩)
     |none=>match w.farStore P a u (Mode.plain==Mode.atomic)with
      | .ok (w,touched)=>k.runT P w (es++touched.toArray.map (⟨.cell ·,true,Mode.plain==Mode.atomic⟩))
      | .error h=>(.halt h w,es))\/(∀(w:ah),(Sem.store Mode.plain a u k).runT P w es=(.halt (.stuck "store: not the value of one cell") w,es)):=by
    exact ayG
   rcases key with key|key
   .rw[key]at hr;cases hc:v.cell? a with
    |none=>
     obtain⟨e,he⟩:=MZ (P:=P) hn a u (Mode.plain==Mode.atomic);simp only[hc,he]at hr;cases hr
    |some u'=>
     simp only[hc]at hr;cases hz:v.frozen? a with
     |true=>rw[hz]at hr;simp at hr
     |false=>
      rw[hz]at hr;simp only[dC,bQ]at hr;obtain⟨h1,h2,h3⟩:=wM k (v.setCell a u) _ x v' rZ hp ((xZ.self hn).setCell (λh=>h) u).nv hr;refine⟨h1,h2,λτ hτ=>?_⟩;have e1:({v with tape:=τ}:ah).cell? a=some u':=hc;have e2:({v with tape:=τ}:ah).frozen? a=false:=hz;rw[key];simp only[e1,e2,dC,bQ];exact h3 τ hτ
   .rw[key]at hr;cases hr
 | .new o k,v,es,x,v',rZ,hp,hn,hr=>by simp only[Sem.runT]at hr;obtain⟨h1,h2,h3⟩:=wM (k v.heap.size) _ es x v' rZ (hp.2 _) ((xZ.self hn).push hp.1).nv hr;exact⟨h1,h2,λτ hτ=>h3 τ hτ⟩
 | .shape r k,v,es,x,v',rZ,hp,hn,hr=>by simp only[Sem.runT]at hr;exact wM (k (v.shape? r)) v es x v' rZ (hp.2 _) hn hr
 | .freeze a n k,_,_,_,_,_,hp,_,_=>hp.elim
 | .frozen a k,v,es,x,v',rZ,hp,hn,hr=>by simp only[Sem.runT]at hr;exact wM (k (v.frozen? a)) v es x v' rZ (hp _) hn hr
 | .getObj r k,v,es,x,v',rZ,hp,hn,hr=>by
   cases ho:v.heap[r]? with
   |none=>simp only[Sem.runT,ho]at hr;cases hr
   |some o=>
    cases o with
    |cells c t fr=>simp only[Sem.runT,ho]at hr;cases hr
    |_=>
     simp only[Sem.runT,ho]at hr;obtain⟨h1,h2,h3⟩:=wM (k _) v _ x v' rZ (hp.2 _) hn hr;refine⟨h1,h2,λτ hτ=>?_⟩;simp only[Sem.runT,ho];exact h3 τ hτ
 | .setObj r o k,_,_,_,_,_,hp,_,_=>hp.elim
 | .choose q k,v,es,x,v',rZ,hp,hn,hr=>by
   cases hq:q.forced with
   |true=>
    simp only[Sem.runT,hq,aX]at hr;obtain⟨h1,h2,h3⟩:=wM (k 0) v es x v' rZ (hp _) hn hr;refine⟨h1,h2,λτ hτ=>?_⟩;simp only[Sem.runT,hq,aX];exact h3 τ hτ
   |false=>
    simp only[Sem.runT,hq,dC,bQ]at hr;obtain⟨h1,h2,h3⟩:=wM (k _) {v with drawn:=v.drawn+1} es x v' rZ (hp _) hn hr;dsimp only at h1 h2 h3;refine⟨h1,ag,λτ hτ=>?_⟩;simp only[Sem.runT,hq,dC,bQ];rw[hτ v.drawn (az _) ag];exact h3 τ λp EE CE=>hτ p ag CE
 | .sys c k,_,_,_,_,_,hp,_,_=>hp.elim
 | .program k,v,es,x,v',rZ,hp,hn,hr=>by simp only[Sem.runT]at hr;exact wM (k P) v es x v' rZ hp hn hr
 | .mark m k,v,es,x,v',rZ,hp,hn,hr=>by simp only[Sem.runT]at hr;exact wM k v _ x v' rZ hp.2 hn hr
 | .halt _,_,_,_,_,_,_,_,hr=>awj
theorem YH{v:ah}(hn:∀(b:Nat)(o:Obj),v.heap[b]?=some o->wX o)(a:Addr)(s:String):Gs (v.noCell a s):=by
 unfold World.noCell;split
 .rename_i h;exact(hn _ _ h).elim
 .trivial
 .trivial
theorem ab6{P:aN}{v:ah}(hn:∀(b:Nat)(o:Obj),v.heap[b]?=some o->wX o)(a:Addr)(m:Bool):∃e,v.farLoad P a m=.error e/\Gs e:=by
 unfold World.farLoad;split
 .rename_i h;obtain⟨e,he⟩:=MX (P:=P) (v:=v) (hn _ _ h) _ a m;rw[he];exact⟨_,rfl,trivial⟩
 .exact⟨_,rfl,YH hn _ _⟩
theorem aad{P:aN}{v:ah}(hn:∀(b:Nat)(o:Obj),v.heap[b]?=some o->wX o)(a:Addr)(u:ai)(m:Bool):∃e,v.farStore P a u m=.error e/\Gs e:=by
 unfold World.farStore;split
 .rename_i h;obtain⟨e,he⟩:=J3 (P:=P) (v:=v) (hn _ _ h) _ a u m;rw[he];exact⟨_,rfl,trivial⟩
 .exact⟨_,rfl,YH hn _ _⟩
theorem uJ{P:aN}{X:Nat->Prop}{Y:Nat->aV}{α:Type}:∀(s:Sem α)(w v:ah)(es:aH)(x:Halt)(v':ah)(rZ:aH),Plain P s->xZ X Y w v->s.runT P v es=(.halt x v',rZ)->Gs x
 | .pure a,w,v,es,x,v',rZ,_,h,hr=>by simp only[Sem.runT]at hr;cases hr
 | .load m a k,w,v,es,x,v',rZ,hp,h,hr=>by
   obtain⟨rfl,hp⟩:=hp;cases hc:v.cell? a with
   |none=>
    obtain⟨e,he,Em⟩:=ab6 (P:=P) h.nv a (Mode.plain==Mode.atomic);simp only[Sem.runT,hc,he]at hr;cases hr;exact Em
   |some u=>
    simp only[Sem.runT,hc]at hr;exact uJ (k u) w v _ x v' rZ (hp u) h hr
 | .store m a u k,w,v,es,x,v',rZ,hp,h,hr=>by
   obtain⟨rfl,hp⟩:=hp
   have key:(∀(w:ah),(Sem.store Mode.plain a u k).runT P w es=match w.cell? a with
     |some _=>if w.frozen? a then(.halt (.unsupported (.unsafePointer "a write to bytes that a string shares")) w,es)else k.runT P (w.setCell a u) (es.push ⟨.cell a,true,Mode.plain==Mode.atomic⟩)
     |none=>match w.farStore P a u (Mode.plain==Mode.atomic)with
      | .ok (w,touched)=>k.runT P w (es++touched.toArray.map (⟨.cell ·,true,Mode.plain==Mode.atomic⟩))
      | .error h=>(.halt h w,es))\/(∀(w:ah),(Sem.store Mode.plain a u k).runT P w es=(.halt (.stuck "store: not the value of one cell") w,es)):=by
    exact ayG
   rcases key with key|key
   .rw[key]at hr;cases hc:v.cell? a with
    |none=>
     obtain⟨e,he,Em⟩:=aad (P:=P) h.nv a u (Mode.plain==Mode.atomic);simp only[hc,he]at hr;cases hr;exact Em
    |some u'=>
     simp only[hc]at hr;cases hz:v.frozen? a with
     |true=>
      rw[hz]at hr;simp only[aX]at hr;cases hr;trivial
     |false=>
      rw[hz]at hr;simp only[dC,bQ]at hr;exact uJ k _ _ _ x v' rZ hp (h.setCell (h.agC hc).1 u) hr
   .rw[key]at hr;cases hr;trivial
 | .new o k,w,v,es,x,v',rZ,hp,h,hr=>uJ (k v.heap.size) _ _ es x v' rZ (hp.2 _) (h.push hp.1) hr
 | .shape r k,w,v,es,x,v',rZ,hp,h,hr=>uJ (k (v.shape? r)) w v es x v' rZ (hp.2 _) h hr
 | .freeze a n k,_,_,_,_,_,_,hp,_,_=>hp.elim
 | .frozen a k,w,v,es,x,v',rZ,hp,h,hr=>uJ (k (v.frozen? a)) w v es x v' rZ (hp _) h hr
 | .getObj r k,w,v,es,x,v',rZ,hp,h,hr=>by
   cases ho:v.heap[r]? with
   |none=>simp only[Sem.runT,ho]at hr;cases hr;trivial
   |some o=>
    cases o with
    |cells c t fr=>simp only[Sem.runT,ho]at hr;cases hr;trivial
    |_=>
     simp only[Sem.runT,ho]at hr;exact uJ (k _) w v _ x v' rZ (hp.2 _) h hr
 | .setObj r o k,_,_,_,_,_,_,hp,_,_=>hp.elim
 | .choose q k,w,v,es,x,v',rZ,hp,h,hr=>by
   cases hq:q.forced with
   |true=>
    simp only[Sem.runT,hq,aX]at hr;exact uJ (k 0) w v es x v' rZ (hp _) h hr
   |false=>
    simp only[Sem.runT,hq,dC,bQ]at hr;exact uJ (k _) _ _ es x v' rZ (hp _) h.draw hr
 | .sys c k,_,_,_,_,_,_,hp,_,_=>hp.elim
 | .program k,w,v,es,x,v',rZ,hp,h,hr=>uJ (k P) w v es x v' rZ hp h hr
 | .mark m k,w,v,es,x,v',rZ,hp,h,hr=>uJ k w v _ x v' rZ hp.2 h hr
 | .halt y,w,v,es,x,v',rZ,hp,_,hr=>by simp only[Sem.runT]at hr;cases hr;exact hp
section
variable {P:aN}{α β:Type}
theorem qo(a:α):Plain P (pure a:Sem α):=trivial
theorem abP(a:α):Plain P (Sem.pure a):=trivial
theorem qw(s:String):Plain P (stuck s:Sem α):=trivial
theorem rX{u:Unsupported}(h:Gs (.unsupported u)):Plain P (unsupported u:Sem α):=h
theorem CU(v:ai):Plain P (goPanic v:Sem α):=trivial
theorem qp{s:Sem α}{f:α->Sem β}(h:Plain P s)(h':∀a,Plain P (f a)):Plain P (s>>=f):=Plain.bind s f h h'
theorem QQ{s:Sem α}{f:α->β}(h:Plain P s):Plain P (f<$>s):=Plain.bind s _ h λ_=>trivial
theorem NR(a:Addr):Plain P (load a):=⟨rfl,λ_=>trivial⟩
theorem Sz(a:Addr)(v:ai):Plain P (store a v):=⟨rfl,trivial⟩
theorem LH{o:Obj}(h:wX o):Plain P (newObj o):=⟨h,λ_=>trivial⟩
theorem Pj(a:Addr):Plain P (frozen a):=λ_=>trivial
theorem Ip{r:Nat}{f:Obj->Sem β}(h:∀o o',Px o o'->f o=f o'\/qW P (f o'))(h':∀o,Plain P (f o)):Plain P (getObj r>>=f):=⟨h,h'⟩
theorem NT{f:Obj->Sem β}(h1:∀a b t,f (.view a t)=f (.view b t))(h2:∀c t,f (.pending c t)=f (.stringIter .empty 0)):∀o o',Px o o'->f o=f o'\/qW P (f o'):=by
 intro o o' g;rcases g with⟨a,t,rfl,rfl⟩|⟨c,t,rfl,rfl⟩
 .exact .inl (h1 _ _ _)
 .exact .inl (h2 _ _)
theorem J4(r:Nat):Plain P (numberAt r):=by
 refine⟨λt n=>.inr rfl,λs=>?_⟩;cases s with
 |some x=>trivial
 |none=>
  refine⟨λo o' g=>?_,λo=>?_⟩
  .rcases g with⟨a,t,rfl,rfl⟩|⟨c,t,rfl,rfl⟩<;>exact .inl rfl
  .cases o<;>trivial
theorem VF{r:Nat}{f:Option (Addr×aF)->Sem β}(hd:∀y,qW P (f (some y)))(hs:∀y,Plain P (f (some y)))(hn:Plain P (f none)):Plain P (viewAt r>>=f):=by
 refine⟨λt n=>.inr rfl,λs=>?_⟩;cases s with
 |some x=>exact hn
 |none=>
  refine⟨λo o' g=>?_,λo=>?_⟩
  .rcases g with⟨a,t,rfl,rfl⟩|⟨c,t,rfl,rfl⟩
   .exact .inr (hd _)
   .exact .inl rfl
  .cases o<;>first|exact hn|exact hs _
theorem Pz(a:Addr):Plain P (noView a):=by
 refine⟨λt n=>.inr rfl,λs=>?_⟩;cases s with
 |some x=>trivial
 |none=>
  refine⟨λo o' g=>?_,λo=>?_⟩
  .rcases g with⟨a,t,rfl,rfl⟩|⟨c,t,rfl,rfl⟩
   .exact .inr trivial
   .exact .inl rfl
  .cases o<;>trivial
theorem vw(q:Question):Plain P (choose q):=λ_=>trivial
theorem sD:Plain P program:=trivial
theorem NS(n:Nat):Plain P (askRoom n):=by
 unfold askRoom;split
 .exact⟨.inl rfl,trivial⟩
 .trivial
theorem qO{c:Prop}[Decidable c]{a b:Sem α}(h:Plain P a)(h':Plain P b):Plain P (if c then a else b):=by split<;>assumption
end
attribute [local irreducible] Plain
section
variable {P:aN}{α β:Type}
theorem rV(t:aF):Plain P (typeInfo t):=by unfold typeInfo;(repeat'(first|with_reducible(first|exact qo _|exact qw _|exact sD|(refine qp ?_ (λ_=>?_)))|split))
theorem qG(t:aF):Plain P (underlying t):=by unfold underlying;(repeat'(first|with_reducible(first|exact qo _|exact qw _|exact sD|(refine qp ?_ (λ_=>?_)))|split))
theorem wG(t:aF):Plain P (zeroValue t):=by have:=rV (P:=P) t;unfold zeroValue;(repeat'(first|with_reducible(first|assumption|exact qo _)|((with_reducible refine rX ?_);exact trivial)|with_reducible(refine qp ?_ (λ_=>?_))|split))
theorem tH(t:aF):Plain P (sizeOf t):=by have:=rV (P:=P) t;unfold sizeOf;(repeat'(with_reducible first|assumption|exact qo _|(refine qp ?_ (λ_=>?_))))
theorem SI(t:aF):Plain P (isAgg t):=by have:=qG (P:=P) t;unfold isAgg;(repeat'(first|with_reducible(first|assumption|exact qo _|(refine qp ?_ (λ_=>?_)))|split))
theorem Pg(t:aF):Plain P (elemOf t):=by have:=qG (P:=P) t;unfold elemOf;(repeat'(first|with_reducible(first|assumption|exact qo _|exact qw _|(refine qp ?_ (λ_=>?_)))|split))
theorem DX(a:Addr):∀(n i:Nat)(acc:aB),Plain P (loadCellsFrom a i n acc)
 |0,_,acc=>qo acc
 |n+1,i,acc=>by unfold loadCellsFrom;exact qp (NR _) λv=>DX a n _ _
theorem DL(a:Addr)(n:Nat):Plain P (loadCells a n):=DX a n 0 #[]
theorem y9(a:Addr):∀(vs:aK)(i:Nat),Plain P (storeCells a vs i)
 |[],_=>qo ()
 |v::r,i=>by unfold storeCells;exact qp (Sz _ _) λ_=>y9 a r _
theorem wY(t:aF)(a:Addr):Plain P (loadVar t a):=by
 have:=SI (P:=P) t;have:=tH (P:=P) t;unfold loadVar
 (repeat'(with_reducible first|assumption|exact qo _|exact NR _|exact DL _ _|(refine qp ?_ (λ_=>?_))|(refine qO ?_ ?_)))
theorem EW(t:aF)(a:Addr)(v:ai):Plain P (storeVar t a v):=by
 have h1:=tH (P:=P) t;unfold storeVar
 (repeat'(with_reducible first|assumption|exact qw _|exact y9 _ _ _|(refine qp ?_ (λ_=>?_))|(refine qO ?_ ?_)))
theorem VG(t:aF)(cs:aB)(fr:Nat×Nat):Plain P (newObj (.cells cs t fr)):=LH (o:=.cells cs t fr) trivial
theorem Bh(t:aF)(cs:aB):Plain P (newRow t cs):=by unfold newRow;(repeat'(with_reducible first|exact qo _|exact VG _ _ _|(refine qp ?_ (λ_=>?_))))
theorem Bf(t:aF)(v:ai):Plain P (newVar t v):=Bh t _
theorem rD(e:RuntimeError):Plain P (runtimePanic e:Sem α):=by
 unfold runtimePanic
 (repeat'(first|with_reducible(first|exact CU _|exact sD|exact Bf _ _|exact Pg _|(refine qp ?_ (λ_=>?_)))|split))
theorem Bl(k:IntKind)(x y:Int)(c:BoundsCode):Plain P (boundsPanic k x y c:Sem α):=by
 unfold boundsPanic
 (repeat'(with_reducible first|exact qo _|exact vw _|exact rD _|(refine qp ?_ (λ_=>?_))|(refine QQ ?_)|(refine qO ?_ ?_)))
theorem CV(v:ai):Plain P (asIntOf v):=by unfold asIntOf;(repeat'(first|with_reducible(first|exact qo _|exact qw _)|((with_reducible refine rX ?_);exact trivial)|split))
theorem J6(v:ai):Plain P (asInt v):=by have:=CV (P:=P) v;unfold asInt;(repeat'(with_reducible first|assumption|exact qo _|(refine qp ?_ (λ_=>?_))))
theorem Ed(v:ai):Plain P (asBool v):=by unfold asBool;(repeat'(first|with_reducible(first|exact qo _|exact qw _)|split))
theorem yQ(v:ai):Plain P (Instr.sureAddr v):=by unfold Instr.sureAddr;(repeat'(first|with_reducible(first|exact qo _|exact qw _)|split))
theorem Ee(v:ai):Plain P (asAddr v):=by
 unfold asAddr
 (repeat'(first|with_reducible(first|exact qo _|exact qw _|exact rD _)|split))
theorem ab7(t:aF)(b:Bool)(o:ai):Plain P (Instr.alloc t b o):=by unfold Instr.alloc;(repeat'(first|with_reducible(first|exact qo _|exact wG _|exact EW _ _ _|exact Bf _ _|(refine qp ?_ (λ_=>?_)))|split))
theorem aae(t:aF)(v:ai):Plain P (Instr.loadAt t v):=by unfold Instr.loadAt;(repeat'(with_reducible first|exact wY _ _|exact yQ _|(refine qp ?_ (λ_=>?_))))
theorem Xq(t:aF)(v u:ai):Plain P (Instr.storeAt t v u):=by unfold Instr.storeAt;(repeat'(with_reducible first|exact EW _ _ _|exact yQ _|(refine qp ?_ (λ_=>?_))))
theorem Xr(t:aF)(x i:ai):Plain P (Instr.indexAt t x i):=by unfold Instr.indexAt;(repeat'(first|with_reducible(first|exact qo _|exact qw _)|((with_reducible refine rX ?_);exact trivial)|with_reducible(first|exact qG _|exact tH _|exact Bl _ _ _ _|exact CV _|exact yQ _|(refine qp ?_ (λ_=>?_))|(refine qO ?_ ?_))|split))
theorem QZ(x:ai)(y:Nat)(c:BoundsCode):Plain P (Instr.sliceBound x y c):=by unfold Instr.sliceBound;(repeat'(with_reducible first|exact qo _|exact Bl _ _ _ _|exact CV _|(refine qp ?_ (λ_=>?_))|(refine qO ?_ ?_)))
theorem FX(b:Bool)(l c:Nat)(lo hi mx:Option ai):Plain P (Instr.sliceBounds b l c lo hi mx):=by
 unfold Instr.sliceBounds
 (repeat'(first|with_reducible(first|exact qo _|exact qw _|exact QZ _ _ _|(refine qp ?_ (λ_=>?_)))|split))
theorem ab8(t:aF)(x:ai)(lo hi mx:Option ai):Plain P (Instr.slice t x lo hi mx):=by
 unfold Instr.slice
 (repeat'(first|with_reducible(first|exact qo _|exact qw _|exact FX _ _ _ _ _ _|exact qG _|exact tH _|exact Ee _|(refine qp ?_ (λ_=>?_))|(refine qO ?_ ?_))|split))
theorem Xt(t:aF)(x:ai)(lo hi mx:Option ai):Plain P (Instr.sliceAt t x lo hi mx):=by
 unfold Instr.sliceAt
 (repeat'(first|with_reducible(first|exact qo _|exact FX _ _ _ _ _ _|exact ab8 _ _ _ _ _|exact qG _|exact tH _|exact yQ _|(refine qp ?_ (λ_=>?_)))|split))
theorem TU(t:aF)(l c:ai):Plain P (Instr.makeSlice t l c):=by unfold Instr.makeSlice;(repeat'(first|with_reducible(first|exact qo _|exact qw _|exact vw _|exact NS _|exact rV _|exact qG _|exact wG _|exact tH _|exact Bh _ _|exact rD _|exact J6 _|(refine qp ?_ (λ_=>?_))|(refine qO ?_ ?_))|split))
theorem Xu(t:ai)(i:Nat):Plain P (Instr.extract t i):=by unfold Instr.extract;(repeat'(first|with_reducible(first|exact qo _|exact qw _)|split))
theorem ab9(o:UnOp)(x:ai):Plain P (Op.unary o x):=by unfold Op.unary Op.intArith Op.intBits;(repeat'(first|with_reducible(first|exact qo _|exact qw _)|((with_reducible refine rX ?_);exact trivial)|split))
theorem J7{r:Nat}{f:Option (aF×Nat)->Sem β}(h:∀t n,qW P (f (some (t,0)))\/f (some (t,n))=f (some (t,0)))(h':∀s,Plain P (f s)):Plain P (shape r>>=f):=by unfold Plain;exact⟨h,h'⟩
theorem Iu(a:Addr):Plain P (behindNumber a):=by unfold behindNumber;(repeat'(with_reducible first|exact qo _|exact J4 _|(refine qp ?_ (λ_=>?_))))
theorem Ef(a:Addr):Plain P (byteOf a):=by
 unfold byteOf;split
 ·(repeat'(with_reducible exact qo _))
 refine qp sD λp=>qp (Pz a) λ_=>J7 (λ_ _=>.inr rfl) λs=>?_
 (repeat'(first|with_reducible(first|exact qo _|exact qw _|(refine qO ?_ ?_))|split))
theorem aaf(a:Addr)(c b:Nat):Plain P (partAt a c b):=by unfold partAt;(repeat'(with_reducible first|exact qo _|exact Ef _|(refine qp ?_ (λ_=>?_))))
theorem G7(a:Addr)(f:Field):Plain P (fieldPlace a f):=by unfold fieldPlace;(repeat'(with_reducible first|exact qo _|exact aaf _ _ _|exact tH _|(refine qp ?_ (λ_=>?_))|(refine qO ?_ ?_)))
theorem Xv(t:aF)(x:ai)(f:Nat):Plain P (Instr.fieldAt t x f):=by unfold Instr.fieldAt;(repeat'(first|with_reducible(first|exact qo _|exact qw _|exact G7 _ _|exact qG _|exact yQ _|(refine qp ?_ (λ_=>?_)))|split))
theorem yR(t:aF)(cs:aB)(o:Nat):Plain P (part t cs o):=by unfold part;(repeat'(first|with_reducible(first|exact qo _|exact qw _|exact tH _|exact SI _|(refine qp ?_ (λ_=>?_))|(refine qO ?_ ?_))|split))
theorem ab_(v:ai):Plain P (asAgg v):=by unfold asAgg;(repeat'(first|with_reducible(first|exact qo _|exact qw _)|split))
theorem aca(t:aF)(x:ai)(f:Nat):Plain P (Instr.field t x f):=by unfold Instr.field;(repeat'(first|with_reducible(first|exact qw _|exact qG _|exact yR _ _ _|exact ab_ _|(refine qp ?_ (λ_=>?_)))|split))
theorem acb(t:aF)(x i:ai):Plain P (Instr.index t x i):=by unfold Instr.index;(repeat'(first|with_reducible(first|exact qo _|exact qw _|exact qG _|exact yR _ _ _|exact tH _|exact CV _|exact Bl _ _ _ _|(refine qp ?_ (λ_=>?_))|(refine qO ?_ ?_))|split))
theorem Q3(t:aF)(n:Nat)(ps:Array (Nat×ai)):Plain P (Instr.buildSlice t n ps):=by unfold Instr.buildSlice;(repeat'(first|with_reducible(first|exact qo _|exact qw _)|((with_reducible refine rX ?_);exact trivial)|with_reducible(first|exact qG _|exact wG _|exact tH _|exact Bh _ _|(refine qp ?_ (λ_=>?_))|(refine qO ?_ ?_))|split|(dsimp only)))
theorem ahk(t:aF)(v:ai):Plain P (Instr.box t v):=by unfold Instr.box;(repeat'(with_reducible first|exact qo _|exact Bf _ _|(refine qp ?_ (λ_=>?_))))
theorem SK(v:ai):Plain P (Builtin.lenOf v):=by unfold Builtin.lenOf;(repeat'(first|with_reducible(first|exact qo _|exact qw _)|split))
theorem G8(a b:Nat)(v:ai):Plain P (Builtin.firstCells a b v):=by unfold Builtin.firstCells;(repeat'(first|with_reducible(first|exact qo _|exact qw _|exact DL _ _)|split))
theorem ad9(ts:Array aF)(t:aF)(avg:aB):Plain P (Builtin.copy_ ts t avg):=by unfold Builtin.copy_;(repeat'(first|with_reducible(first|exact qo _|exact qw _|exact qG _|exact SK _|exact G8 _ _ _|exact tH _|exact y9 _ _ _|(refine qp ?_ (λ_=>?_)))|split))
theorem ahl(ts:Array aF)(t:aF)(avg:aB):Plain P (Builtin.len_ ts t avg):=by unfold Builtin.len_;(repeat'(first|with_reducible(first|exact qo _|exact qw _|exact qG _)|((with_reducible refine Ip ?_ ?_);(focus(exact NT (λ_ _ _=>rfl) (λ_ _=>rfl)));(intro _))|with_reducible(refine qp ?_ (λ_=>?_))|split))
theorem ahm(ts:Array aF)(t:aF)(avg:aB):Plain P (Builtin.cap_ ts t avg):=by unfold Builtin.cap_;(repeat'(first|with_reducible(first|exact qo _|exact qw _|exact qG _)|((with_reducible refine Ip ?_ ?_);(focus(exact NT (λ_ _ _=>rfl) (λ_ _=>rfl)));(intro _))|with_reducible(refine qp ?_ (λ_=>?_))|split))

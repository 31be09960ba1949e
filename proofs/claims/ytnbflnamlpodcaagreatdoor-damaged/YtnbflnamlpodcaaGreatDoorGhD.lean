import Derived.Test.YtnbflnamlpodcaaGreatDoorAa
import Derived.Conc.Beside
import Derived.Conc.CrowdStepC2
set_option maxHeartbeats 400000
namespace Go.Gh
def _root_.Go.World.out(w:World)(x:Array (Nat×ByteArray)):World:={w with output:=x}
def _root_.Go.Result.out{α:Type}(r:Result α)(x:Array (Nat×ByteArray)):Result α:=
 match r with
 | .ok a w=>.ok a (w.out x)
 | .halt h w=>.halt h (w.out x)
def _root_.Go.GStep.out(s:GStep)(x:Array (Nat×ByteArray)):GStep:=
 match s with
 | .go g w es=>.go g (w.out x) es
 | .comm g c b sh w es=>.comm g c b sh (w.out x) es
 | .spawn g c w es=>.spawn g c (w.out x) es
 | .count g w es=>.count g (w.out x) es
 | .timer g o w es=>.timer g o (w.out x) es
 | .alone g o w es=>.alone g o (w.out x) es
 | .newcoro g c d w es=>.newcoro g c d (w.out x) es
 | .coroswitch g c e w es=>.coroswitch g c e (w.out x) es
 | .collect g w es=>.collect g (w.out x) es
 | .watch g w es=>.watch g (w.out x) es
 | .ended o w es=>.ended o (w.out x) es
section
variable (w:World)(x:Array (Nat×ByteArray))
@[simp] theorem J_ (a:Addr):(w.out x).cell? a=w.cell? a:=rfl
@[simp] theorem aoI (r:Nat):(w.out x).shape? r=w.shape? r:=rfl
@[simp] theorem am3 (a:Addr):(w.out x).frozen? a=w.frozen? a:=rfl
@[simp] theorem QT (a:Addr) (v:Value):(w.out x).setCell a v=(w.setCell a v).out x:=rfl
theorem UM(a:Addr)(n:Nat):(w.out x).freeze a n=(w.freeze a n).out x:=by unfold World.freeze;split<;>rfl
@[simp] theorem Em:(w.out x).heap=w.heap:=rfl
@[simp] theorem aa4:(w.out x).tape=w.tape:=rfl
@[simp] theorem XM:(w.out x).drawn=w.drawn:=rfl
@[simp] theorem aoJ:(w.out x).os=w.os:=rfl
theorem QU(p:Program)(a:Addr)(b:Bool):(w.out x).farLoad p a b=w.farLoad p a b:=rfl
theorem Wj(p:Program)(at_:Addr)(u:TypeId)(k:Addr)(v:Value)(b:Bool):
  (w.out x).viewStore p at_ u k v b=(w.viewStore p at_ u k v b).map λ(w',t)=>(w'.out x,t):=by
 unfold World.viewStore;have e:(w.out x).seen p at_ u k b=w.seen p at_ u k b:=rfl;rw[e];cases (!tight p p.depth u)
 .simp only[bu,aU];cases w.seen p at_ u k b with
  |error y=>rfl
  |ok y=>
   obtain⟨c,e,fz,first,like,cells⟩:=y;simp only[bind,Except.bind,pure,Except.pure];cases v.bytes? with
   |none=>rfl
   |some bs=>
    simp only;split
    .rfl
    .split<;>rfl
 .rfl
theorem Oh(p:Program)(a:Addr)(v:Value)(b:Bool):(w.out x).farStore p a v b=(w.farStore p a v b).map λ(w',t)=>(w'.out x,t):=by
 unfold World.farStore;simp only[Em];split
 .rw[Wj];cases w.viewStore p _ _ a v b<;>rfl
 .rfl
theorem al8{α:Type}(k:Ask α):∀w:World,(w.out x).ask k=((w.ask k).1,(w.ask k).2.out x):=by
 induction k with
 |done a=>intro w;rfl
 |ask what range k ih=>
  intro w;simp only[World.ask];split
  .exact ih 0 w
  .exact ih _ {w with drawn:=w.drawn+1}
theorem Za(c:Sys):(w.out x).sys c=((w.sys c).1,(w.sys c).2.out x):=by unfold World.sys;rw[al8];simp only[aoJ];generalize w.ask (Kernel.perform c w.os)=q;obtain⟨⟨r,os⟩,w'⟩:=q;cases r<;>rfl
theorem Ko{α:Type}(p:Program)(s:Sem α):∀w:World,s.run p (w.out x)=(s.run p w).out x:=by
 induction s with
 |pure a=>intro w;rfl
 |load m a k ih=>
  intro w;simp only[Sem.run,J_];split
  .exact ih _ w
  .rw[QU];split
   .exact ih _ w
   .rfl
 |store m a v k ih=>
  intro w
  have key:(match(w.out x).cell? a with
   |some _=>if(w.out x).frozen? a then .halt (.unsupported (.unsafePointer "a write to bytes that a string shares")) (w.out x)else k.run p ((w.out x).setCell a v)
   |none=>match(w.out x).farStore p a v (m==.atomic)with
    | .ok (w,_)=>k.run p w
    | .error h=>.halt h (w.out x))=((match w.cell? a with
   |some _=>if w.frozen? a then .halt (.unsupported (.unsafePointer "a write to bytes that a string shares")) w else k.run p (w.setCell a v)
   |none=>match w.farStore p a v (m==.atomic)with
    | .ok (w,_)=>k.run p w
    | .error h=>.halt h w:Result α)).out x:=by
   simp only[J_,QT];split
   .by_cases hz:w.frozen? a=true
    .exact axg
    .rw[ah (show¬(w.out x).frozen? a=true from hz),ah hz];exact ih _
   .rw[Oh];cases w.farStore p a v (m==.atomic)with
    |error h=>rfl
    |ok y=>exact ih _
  cases v<;>first|exact key|rfl
 |new o k ih=>intro w;exact ih w.heap.size {w with heap:=w.heap.push o}
 |shape r k ih=>intro w;exact ih _ _
 |freeze a n k ih=>intro w;simp only[Sem.run,UM];exact ih _
 |frozen a k ih=>intro w;exact ih _ _
 |getObj r k ih=>
  intro w;simp only[Sem.run,Em];split
  .rfl
  .exact ih _ _
  .rfl
 |setObj r o k ih=>
  intro w;simp only[Sem.run,Em];split
  .rfl
  .exact ih {w with heap:=w.heap.setIfInBounds r o}
  .rfl
 |choose q k ih=>
  intro w;simp only[Sem.run,aa4,XM];split
  .exact ih _ _
  .exact ih _ {w with drawn:=w.drawn+1}
 |sys c k ih=>
  intro w;simp only[Sem.run,Za];exact ih _ _
 |program k ih=>intro w;exact ih _ _
 |mark m k ih=>intro w;exact ih _
 |halt h=>intro w;rfl
theorem Ar{α:Type}(p:Program)(s:Sem α):∀(w:World)(es:Array Event),s.runT p (w.out x) es=((s.runT p w es).1.out x,(s.runT p w es).2):=by
 induction s with
 |pure a=>intro w es;rfl
 |load m a k ih=>
  intro w es;simp only[Sem.runT,J_];split
  .exact ih _ w _
  .rw[QU];split
   .exact ih _ w _
   .rfl
 |store m a v k ih=>
  intro w es
  have key:(match(w.out x).cell? a with
   |some _=>if(w.out x).frozen? a then(.halt (.unsupported (.unsafePointer "a write to bytes that a string shares")) (w.out x),es)else k.runT p ((w.out x).setCell a v) (es.push ⟨.cell a,true,m==.atomic⟩)
   |none=>match(w.out x).farStore p a v (m==.atomic)with
    | .ok (w,touched)=>k.runT p w (es++touched.toArray.map (⟨.cell ·,true,m==.atomic⟩))
    | .error h=>(.halt h (w.out x),es))=((match w.cell? a with
   |some _=>if w.frozen? a then(.halt (.unsupported (.unsafePointer "a write to bytes that a string shares")) w,es)else k.runT p (w.setCell a v) (es.push ⟨.cell a,true,m==.atomic⟩)
   |none=>match w.farStore p a v (m==.atomic)with
    | .ok (w,touched)=>k.runT p w (es++touched.toArray.map (⟨.cell ·,true,m==.atomic⟩))
    | .error h=>(.halt h w,es):Result α×Array Event).1.out x,(match w.cell? a with
   |some _=>if w.frozen? a then(.halt (.unsupported (.unsafePointer "a write to bytes that a string shares")) w,es)else k.runT p (w.setCell a v) (es.push ⟨.cell a,true,m==.atomic⟩)
   |none=>match w.farStore p a v (m==.atomic)with
    | .ok (w,touched)=>k.runT p w (es++touched.toArray.map (⟨.cell ·,true,m==.atomic⟩))
    | .error h=>(.halt h w,es):Result α×Array Event).2):=by
   simp only[J_,QT];split
   .by_cases hz:w.frozen? a=true
    .exact axg
    .rw[ah (show¬(w.out x).frozen? a=true from hz),ah hz];exact ih _ _
   .rw[Oh];cases w.farStore p a v (m==.atomic)with
    |error h=>rfl
    |ok y=>exact ih _ _
  cases v<;>first|exact key|rfl
 |new o k ih=>intro w es;exact ih w.heap.size {w with heap:=w.heap.push o} es
 |shape r k ih=>intro w es;exact ih _ _ _
 |freeze a n k ih=>intro w es;simp only[Sem.runT,UM];exact ih _ _
 |frozen a k ih=>intro w es;exact ih _ _ _
 |getObj r k ih=>
  intro w es;simp only[Sem.runT,Em];split
  .rfl
  .exact ih _ _ _
  .rfl
 |setObj r o k ih=>
  intro w es;simp only[Sem.runT,Em];split
  .rfl
  .exact ih {w with heap:=w.heap.setIfInBounds r o} _
  .rfl
 |choose q k ih=>
  intro w es;simp only[Sem.runT,aa4,XM];split
  .exact ih _ _ _
  .exact ih _ {w with drawn:=w.drawn+1} _
 |sys c k ih=>
  intro w es;simp only[Sem.runT,Za];exact ih _ _ _
 |program k ih=>intro w es;exact ih _ _ _
 |mark m k ih=>intro w es;exact ih _ _
 |halt h=>intro w es;rfl
end
section
variable (p:Program)(x:Array (Nat×ByteArray))
theorem Aa(es:Array Event)(s:GStep):(GStep.after es s).out x=GStep.after es (s.out x):=by cases s<;>rfl
theorem Oi(fr:Frame)(m:String)(w:World):endThrow fr m (w.out x)=(endThrow fr m w).out x:=rfl
theorem Ij(fr:Frame)(v:Value)(w:World):endPrinting p fr v (w.out x)=(endPrinting p fr v w).out x:=by unfold endPrinting;dsimp only;split<;>rfl
theorem Oj(fr:Frame)(cs:List Frame)(d:Option Dying)(m:String)(w:World):endFatal p fr cs d m (w.out x)=(endFatal p fr cs d m w).out x:=by
 unfold endFatal;dsimp only;rw[Ko];generalize Sem.run p _ w=r;cases r with
 |ok a w=>rfl
 |halt h w=>cases h<;>rfl
theorem aa5(w:World)(fd:Nat)(t:ByteArray)(o:Outcome):endWith (w.out x) fd t o=(endWith w fd t o).out x:=by unfold endWith;rw[Za];generalize w.sys (.write fd t)=q;obtain⟨r,w'⟩:=q;cases r<;>(dsimp only;try split)<;>rfl
theorem aa6(fr:Frame)(d:Dying)(f:Fatal)(w:World):writeOn p fr d f (w.out x)=(writeOn p fr d f w).out x:=by
 unfold writeOn;dsimp only;split
 .rfl
 .rw[Ar];generalize Sem.runT p _ w #[]=r;obtain⟨r,es⟩:=r;cases r with
  |ok a w=>rfl
  |halt h w=>cases h<;>rfl
theorem al9(fr:Frame)(d:Dying)(w:World):die p fr d (w.out x)=(die p fr d w).out x:=by
 unfold die;split
 .exact aa6 p x _ _ _ _
 .split
  .show(if printLockHeld p w then _ else _)=_;split
   .rfl
   .exact aa5 x _ _ _ _
  .dsimp only;split
   .rfl
   .exact axS
   .rw[Ar];generalize Sem.runT p _ w #[]=r;obtain⟨r,es⟩:=r;dsimp only;rw[Aa]
    congr 1
    cases r with
    |ok a w=>
     cases a<;>try rfl
     rename_i v;cases v<;>rfl
    |halt h w=>cases h<;>first|rfl|exact Ij p x _ _ _
   .rfl
theorem G8(main:Bool)(fr:Frame)(cs:List Frame)(d:Option Dying)(v:Value)(w:World):doReturn p main fr cs d v (w.out x)=(doReturn p main fr cs d v w).out x:=by
 unfold doReturn;cases cs with
 |cons c rest=>dsimp only;cases fr.kind<;>rfl
 |nil=>
  dsimp only;split
  .rfl
  .rfl
  .split
   .rfl
   .split<;>rfl
theorem XN(w:World):∀(n:Nat)(f:FuncId),p.found (w.out x) n f=p.found w n f
 |0,_=>rfl
 |n+1,f=>by unfold Program.found;simp only[XN w n];rfl
theorem QV(w:World):∀(n:Nat)(l s:List FuncId),p.brought (w.out x) n l s=p.brought w n l s
 |0,_,_=>rfl
 |n+1,[],s=>rfl
 |n+1,f::l,s=>by unfold Program.brought;simp only[QV w n];rfl
theorem age(fr:Frame)(cs:List Frame)(d:Option Dying)(g:Nat)(w:World):early p fr cs d g (w.out x)=(early p fr cs d g w).out x:=by
 have ny:∀w:World,(match(w.out x).heap[g]? with
  |some (.pending c elem)=>(.go {frame:=fr,callers:=cs,status:=.running,dying:=d} {w.out x with heap:=(w.out x).heap.setIfInBounds g (.cells c elem)}:GStep)
  |_=>.ended (.stuck "early: the variable does not wait" (fr.pos p)) (w.out x))=(match w.heap[g]? with
  |some (.pending c elem)=>(.go {frame:=fr,callers:=cs,status:=.running,dying:=d} {w with heap:=w.heap.setIfInBounds g (.cells c elem)}:GStep)
  |_=>.ended (.stuck "early: the variable does not wait" (fr.pos p)) w).out x:=by
  intro w;simp only[Em];split<;>rfl
 unfold early;dsimp only;simp only[XN,QV];split
 .exact ny w
 .split
  .rfl
  .split
   .exact ny w
   .split
    .rename_i h;rw[aj (show(((p.code? _).bind λc=>(readies c).getLast?).bind w.shape?).isSome=true from h)];exact ny w
    .rename_i h;rw[ah (show¬(((p.code? _).bind λc=>(readies c).getLast?).bind w.shape?).isSome=true from h)];split
     .rfl
     .rfl
     .rfl
     .exact ny w
     .split
      .rfl
      .split
       .exact ny w
       .rw[Ko];generalize Sem.run p _ w=r;cases r with
        |ok a w=>cases a<;>first|exact ny w|(dsimp only[Result.out];rfl)
        |halt h w=>rfl
end
section
variable (p:Program)(x:Array (Nat×ByteArray))
theorem G9{c:Prop}[Decidable c]{a b a' b':GStep}(h:a'=a.out x)(h':b'=b.out x):(if c then a' else b')=(if c then a else b).out x:=by
 by_cases hc:c
 .rw[aj hc,aj hc];exact h
 .rw[ah hc,ah hc];exact h'
theorem P7(fr:Frame)(cs:List Frame)(d:Option Dying)(c:Deferred)(w:World):callDeferred p fr cs d c (w.out x)=(callDeferred p fr cs d c w).out x:=by
 unfold callDeferred;refine G9 x rfl ?_;rw[Ar];generalize Sem.runT p _ w #[]=r;obtain⟨r,es⟩:=r;dsimp only;rw[Aa];cases r with
 |ok a w=>
  dsimp only[Result.out];refine aP _ ?_;cases a with
  |recover=>dsimp only;split<;>rfl
  |alone b v=>cases b<;>rfl
  |coroswitch c e=>cases e<;>rfl
  |_=>rfl
 |halt h w=>
  cases h with
  |fatal m=>exact aP _ (Oj p x _ _ _ _ _)
  |throw m=>exact aP _ (Oi x _ _ _)
  |_=>rfl
theorem adp(main:Bool)(fr:Frame)(cs:List Frame)(d:Option Dying)(w:World):unwind p main fr cs d (w.out x)=(unwind p main fr cs d w).out x:=by
 unfold unwind;split
 .rw[Ar];generalize Sem.runT p _ w #[]=r;obtain⟨r,es⟩:=r;dsimp only;rw[Aa];cases r<;>rfl
 .exact P7 p x _ _ _ _ _
 .cases fr.mode with
  |run=>rfl
  |panicking chain=>
   refine G9 x rfl ?_;cases cs with
   |cons c rest=>rfl
   |nil=>
    cases d with
    |none=>
     refine G9 x rfl ?_;rw[Ko];generalize Sem.run p _ w=r;cases r with
     |ok a w=>rfl
     |halt h w=>cases h<;>rfl
    |some d=>
     dsimp only;split
     .exact Ij p x _ _ _
     .rfl
  |returning=>
   dsimp only;split
   .exact G8 p x _ _ _ _ _ _
   .rw[Ar];generalize Sem.runT p _ w #[]=r;obtain⟨r,es⟩:=r;dsimp only;rw[Aa];cases r with
    |ok a w=>exact aP _ (G8 p x _ _ _ _ _ _)
    |halt h w=>cases h<;>rfl
theorem Gi(listen:Bool)(fr:Frame)(cs:List Frame)(d:Option Dying)(s:Sem Next)(w:World):stepG.apply p listen fr cs d s (w.out x)=(stepG.apply p listen fr cs d s w).out x:=by
 unfold stepG.apply
 have e:(if listen=true then s.runT p (w.out x) #[]else(s.run p (w.out x),#[]))=((if listen=true then s.runT p w #[]else(s.run p w,#[])).1.out x,(if listen=true then s.runT p w #[]else(s.run p w,#[])).2):=by
  cases listen
  .simp only[bu,aU,Ko]
  .simp only[aF,Ar]
 rw[e];generalize(if listen=true then s.runT p w #[]else(s.run p w,#[]))=r;obtain⟨r,es⟩:=r;dsimp only;rw[Aa];cases r with
 |ok a w=>
  dsimp only[Result.out];refine aP _ ?_;cases a with
  |callThen d r s wr=>dsimp only;split<;>rfl
  |row r atO=>dsimp only;split<;>rfl
  |stack r s=>dsimp only;split<;>rfl
  |recover=>dsimp only;split<;>rfl
  |spawn d=>exact G9 x rfl rfl
  |_=>rfl
 |halt h w=>
  cases h with
  |fatal m=>exact aP _ (Oj p x _ _ _ _ _)
  |throw m=>exact aP _ (Oi x _ _ _)
  |unsupported u=>
   cases u with
   |initOrder g=>exact aP _ (age p x _ _ _ _ _)
   |_=>rfl
  |_=>rfl
theorem ai7(listen:Bool)(fr:Frame)(cs:List Frame)(d:Option Dying)(w:World):stepG.oper p listen fr cs d (w.out x)=(stepG.oper p listen fr cs d w).out x:=by
 unfold stepG.oper;cases fr.oper? with
 |none=>rfl
 |some o=>
  dsimp only;split<;>exact Gi p x _ _ _ _ _ _
def adq(main:Bool)(fr:Frame)(cs:List Frame)(d:Option Dying)(w:World)(jump:Option Code):GStep:=
 match fr.roundOf with
 |none=>if jump matches none|some .ret then .go {frame:={fr with mode:=.returning},callers:=cs,status:=.running,dying:=d} w else .ended (.stuck "exit, goto: no such block or label" (fr.pos p)) w
 |some l=>
  let(r,es):=(Instr.endRound l jump).runT p w #[]
  GStep.after (seen p fr.fn es)<|match r with
  | .ok v w=>doReturn p main fr cs d v w
  | .halt _ w=>.ended (.stuck "range over a function: no such loop" (fr.pos p)) w
theorem G_(main:Bool)(fr:Frame)(cs:List Frame)(d:Option Dying)(w:World)(jump:Option Code):adq p main fr cs d (w.out x) jump=(adq p main fr cs d w jump).out x:=by
 unfold adq;cases fr.roundOf with
 |none=>exact G9 x rfl rfl
 |some l=>
  dsimp only;rw[Ar];generalize Sem.runT p _ w #[]=r;obtain⟨r,es⟩:=r;dsimp only;rw[Aa];cases r with
  |ok a w=>exact aP _ (G8 p x _ _ _ _ _ _)
  |halt h w=>rfl
theorem ai8(main listen:Bool)(fr:Frame)(cs:List Frame)(d:Option Dying)(w:World):stepG.exec p main listen fr cs d (w.out x)=(stepG.exec p main listen fr cs d w).out x:=by
 unfold stepG.exec
 extract_lets go to lost leave to' atj asM
 split
 .exact G_ p x main fr cs d w none
 .exact G_ p x main fr cs d w (some .ret)
 .rfl
 .rfl
 .rfl
 .rfl
 .rfl
 .split<;>rfl
 .rfl
 .rfl
 .rfl
 .rfl
 .cases exitTo _ _ with
  |none=>exact G_ p x main fr cs d w (some (.exit _))
  |some k=>rfl
 .cases gotoIn _ _ with
  |none=>exact G_ p x main fr cs d w (some (.goto _))
  |some k=>rfl
 .rw[Ar];generalize Sem.runT p _ w #[]=r;obtain⟨r,es⟩:=r;dsimp only;rw[Aa];cases r with
  |ok a w=>exact aP _ (Gi p x _ _ _ _ _ _)
  |halt h w=>rfl
 .rfl
 .exact Gi p x _ _ _ _ _ _
 .rw[Ar];generalize Sem.runT p _ w #[]=r;obtain⟨r,es⟩:=r;dsimp only;rw[Aa];cases r with
  |ok a w=>rfl
  |halt h w=>cases h<;>rfl
 .rfl
 .exact Gi p x _ _ _ _ _ _
 .cases Extern.next _ with
  |none=>rfl
  |some e=>exact Gi p x _ _ _ _ _ _
 .refine G9 x rfl ?_;exact axS
 .rfl
 .exact G9 x (ai7 p x _ _ _ _ _) rfl
theorem Kr(main:Bool)(g:Goroutine)(w:World):stepG p main g (w.out x)=(stepG p main g w).out x:=by
 obtain⟨fr,cs,st,d,of⟩:=g;unfold stepG;dsimp only;split
 .exact al9 p x _ _ _
 .exact ai8 p x _ _ _ _ _ _
 .exact adp p x _ _ _ _ _
theorem Ha{main:Bool}{g g':Goroutine}{w w':World}{es:Array Event}(h:stepG p main g (w.out x)=.go g' w' es):stepG p main g w=.go g' (w'.out w.output) es/\w'.output=x:=by
 have h1:=Kr p x main g w;rw[h]at h1;have h2:=Kr p w.output main g w;rw[show w.out w.output=w from rfl]at h2;cases hs:stepG p main g w with
 |go g1 w1 KZ=>
  rw[hs]at h1 h2;simp only[GStep.out,GStep.go.injEq]at h1 h2⊢;obtain⟨rfl,rfl,rfl⟩:=h1;exact⟨⟨rfl,h2.2.1,rfl⟩,rfl⟩
 |_=>rw[hs]at h1;cases h1
theorem Sj{main:Bool}{g g' c:Goroutine}{w w':World}{es:Array Event}(h:stepG p main g (w.out x)=.spawn g' c w' es):stepG p main g w=.spawn g' c (w'.out w.output) es/\w'.output=x:=by
 have h1:=Kr p x main g w;rw[h]at h1;have h2:=Kr p w.output main g w;rw[show w.out w.output=w from rfl]at h2;cases hs:stepG p main g w with
 |spawn g1 c1 w1 KZ=>
  rw[hs]at h1 h2;simp only[GStep.out,GStep.spawn.injEq]at h1 h2⊢;obtain⟨rfl,rfl,rfl,rfl⟩:=h1;exact⟨⟨rfl,rfl,h2.2.2.1,rfl⟩,rfl⟩
 |_=>rw[hs]at h1;cases h1
end
end Go.Gh
namespace Go.Gh
open Go.Conc Go.ConcN
open Go.ConcR (Payload)
def Ih(w:World):Nat:=match w.output.toList with|[]=>0|(t,_)::_=>t
def TV(w:World):List Nat:=(w.output.toList.drop 1).map (·.1)
def book(t:Nat)(l:List Nat):Array (Nat×ByteArray):=((t,ByteArray.empty)::l.map λb=>(b,ByteArray.empty)).toArray
theorem xA(w:World)(t:Nat)(l:List Nat):Ih (w.out (book t l))=t:=by simp[Ih,book,World.out]
theorem vH(w:World)(t:Nat)(l:List Nat):TV (w.out (book t l))=l:=by simp[TV,book,World.out,auj]
def qO(w:World)(b:Nat):Prop:=b∈TV w\/(Ih w<=b/\b<w.heap.size)
def gw(w:World)(l:List Nat):World:=w.out (book w.heap.size l)
theorem yK(w:World)(l:List Nat)(b:Nat):qO (gw w l) b↔b∈l:=by unfold qO gw;rw[vH,xA];exact⟨λh=>h.elim id λh=>absurd h.2 (by simp only[Em];omega),.inl⟩
class qV where
 old:Nat->Prop
class rQ where
 el:Nat
 ts:Nat
section
variable [Payload](Wg C n B:Nat)(Cl:Nat->Prop)
structure Ro(w w₁:World):Prop where
 size:w.heap.size<=w₁.heap.size
 tape:w₁.tape=w.tape
 os:w₁.os=w.os
 tag:Ih w₁=w₁.heap.size
 own:∀b,b∈TV w₁↔qO w b
 low:∀b,b<B->b≠Wg->b≠C->w₁.heap[b]?=w.heap[b]?
 mine:∀b,qO w b->w₁.heap[b]?=w.heap[b]?
 cell:∀i,Cl i->w₁.cell? ⟨C,i,none⟩=w.cell? ⟨C,i,none⟩
 pay:PayAt C n w->PayAt C n w₁
variable [qV]
def EvG(w w':World)(e:Event):Prop:=∃a wr,e=⟨.cell a,wr,false⟩/\a.block<w'.heap.size/\
 (qO w a.block\/w.heap.size<=a.block\/(∃i,a=⟨C,i,none⟩/\Cl i)\/(a.block<B/\a.block≠Wg/\a.block≠C/\wr=false/\¬qV.old a.block))
structure Dg(w w':World)(es:Array Event):Prop where
 size:w.heap.size<=w'.heap.size
 tape:w'.tape=w.tape
 os:w'.os=w.os
 frame:∀b,b<w.heap.size->¬qO w b->b≠C->w'.heap[b]?=w.heap[b]?
 cells:∀i,¬Cl i->w'.cell? ⟨C,i,none⟩=w.cell? ⟨C,i,none⟩
 pay:PayAt C n w->PayAt C n w'
 evs:∀e∈es,EvG Wg C B Cl w w' e
end
section
variable [Payload]{Wg C n B:Nat}{Cl:Nat->Prop}{w w₁ w₂:World}
theorem Ro.yj(h:Ro Wg C n B Cl w w₁)(b:Nat):qO w₁ b↔qO w b:=by unfold qO;rw[h.own,h.tag];exact⟨λx=>x.elim id λy=>absurd y ae,.inl⟩
theorem Ro.trans(h:Ro Wg C n B Cl w w₁)(h':Ro Wg C n B Cl w₁ w₂):Ro Wg C n B Cl w w₂:=
 ⟨aJ h.size h'.size,h'.tape.trans h.tape,h'.os.trans h.os,h'.tag,λb=>(h'.own b).trans (h.yj b),λb h1 h2 h3=>(h'.low b h1 h2 h3).trans (h.low b h1 h2 h3),
  λb hb=>(h'.mine b ((h.yj b).2 hb)).trans (h.mine b hb),λi hi=>(h'.cell i hi).trans (h.cell i hi),h'.pay∘h.pay⟩
theorem Dg.idle[qV](w:World):Dg Wg C n B Cl w w #[]:=⟨ak _,rfl,rfl,λ_ _ _ _=>rfl,λ_ _=>rfl,id,ai⟩
structure P8(ty:TypeId)(Wg C n:Nat)(lo:List Nat)(Cm:Nat->Prop)(W W':World):Prop where
 size:W.heap.size<=W'.heap.size
 tape:W'.tape=W.tape
 os:W'.os=W.os
 frame:∀b,b<W.heap.size->b∉lo->b≠C->b≠Wg->W'.heap[b]?=W.heap[b]?
 cells:∀i,¬Cm i->W'.cell? ⟨C,i,none⟩=W.cell? ⟨C,i,none⟩
 pay:PayAt C n W->PayAt C n W'
 live:WgLive ty Wg W->WgLive ty Wg W'
variable {ty:TypeId}{lo l:List Nat}{Cm:Nat->Prop}{W W':World}
theorem P8.refl(W:World):P8 ty Wg C n lo Cm W W:=⟨ak _,rfl,rfl,λ_ _ _ _ _=>rfl,λ_ _=>rfl,id,id⟩
theorem P8.at(W:World)(d:Nat):P8 ty Wg C n lo Cm W (W.at d):=⟨ak _,rfl,rfl,λ_ _ _ _ _=>rfl,λ_ _=>rfl,id,id⟩
theorem P8.of_wg(h:Aside Wg W W')(hl:WgLive ty Wg W')(hCW:C≠Wg):P8 ty Wg C n lo Cm W W':=
 ⟨dX h.size.symm,h.tape,h.os,λb _ _ _ hb=>h.block b hb,λi _=>cell_of_block (h.block C hCW) i,λ⟨cs,hc,hn⟩=>⟨cs,(h.block C hCW).trans hc,hn⟩,λ_=>hl⟩
theorem P8.ro(h:P8 ty Wg C n lo Cm W W')(hB:B<=W.heap.size)(hlo:∀b∈lo,B<=b)(hl:∀b∈l,b∉lo/\b<W.heap.size/\b≠C/\b≠Wg)(hCl:∀i,Cl i->¬Cm i):Ro Wg C n B Cl (gw W l) (gw W' l):=by
 refine⟨h.size,h.tape,h.os,?_,λb=>?_,λb hb h1 h2=>h.frame b ae (λhm=>by have:=hlo b hm;omega) h2 h1,λb hb=>?_,λi hi=>h.cells i (hCl i hi),h.pay⟩
 .unfold gw;rw[xA];rfl
 .rw[yK];unfold gw;rw[vH]
 .rw[yK]at hb;obtain⟨h1,h2,h3,h4⟩:=hl b hb;exact h.frame b h2 h1 h3 h4
def fresh(a b:Nat):List Nat:=List.range' a (b-a)
omit [Payload]in
theorem D8{a b x:Nat}:x∈fresh a b↔a<=x/\x<b:=by unfold fresh;rw[List.mem_range'_1];omega
theorem ai9(hW:W'=w₁.out W.output)(ho:w₁.output=book W.heap.size l):Ro Wg C n B Cl w₁ (gw W' (l++fresh W.heap.size W'.heap.size)):=by
 subst hW
 have hm:∀b,qO w₁ b↔b∈l++fresh W.heap.size w₁.heap.size:=by
  intro b;have e:w₁=w₁.out (book W.heap.size l):=by rw[<-ho];rfl
  rw[e];unfold qO;rw[vH,xA,kJ,D8]
 refine⟨ak _,rfl,rfl,?_,λb=>?_,λ_ _ _ _=>rfl,λ_ _=>rfl,λ_ _=>rfl,id⟩
 .unfold gw;rw[xA];rfl
 .unfold gw;rw[vH,hm];rfl
theorem Dg.chg[qV]{es:Array Event}(h:Dg Wg C n B Cl (gw W l) w₁ es)(hW:W'=w₁.out W.output)(wP:Wg∉l)(hWs:Wg<W.heap.size)(hCW:C≠Wg):P8 ty Wg C n l Cl W W':=by
 subst hW;have hf:∀b,b<W.heap.size->b∉l->b≠C->w₁.heap[b]?=W.heap[b]?:=λb h1 h2 h3=>h.frame b h1 (by rw[yK];exact h2) h3
 refine⟨h.size,h.tape,h.os,λb h1 h2 h3 _=>hf b h1 h2 h3,λi hi=>h.cells i hi,h.pay,λ⟨st,sm,x⟩=>⟨st,sm,?_⟩⟩;have:=hf Wg hWs wP (di hCW);exact x.of_block this

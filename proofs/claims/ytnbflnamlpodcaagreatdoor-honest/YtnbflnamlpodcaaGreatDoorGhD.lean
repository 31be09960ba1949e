import Derived.Test.YtnbflnamlpodcaaGreatDoorAa
import Derived.Conc.Beside
import Derived.Conc.CrowdStepC2
set_option maxHeartbeats 400000
namespace Go.Gh
def _root_.Go.World.out(w:ah)(x:Array (Nat×ByteArray)):ah:={w with output:=x}
def _root_.Go.Result.out{α:Type}(r:Result α)(x:Array (Nat×ByteArray)):Result α:=
 match r with
 | .ok a w=>.ok a (w.out x)
 | .halt h w=>.halt h (w.out x)
def _root_.Go.GStep.out(s:GStep)(x:Array (Nat×ByteArray)):GStep:=
 match s with
 | .go g w es=>.go g (w.out x) es
 | .comm g c b sh w es=>.comm g c b sh (w.out x) es
 | .spawn g c w es=>.spawn g c (w.out x) es
 | .count g w es=>.count g (w.out x) es
 | .timer g o w es=>.timer g o (w.out x) es
 | .alone g o w es=>.alone g o (w.out x) es
 | .newcoro g c d w es=>.newcoro g c d (w.out x) es
 | .coroswitch g c e w es=>.coroswitch g c e (w.out x) es
 | .collect g w es=>.collect g (w.out x) es
 | .watch g w es=>.watch g (w.out x) es
 | .ended o w es=>.ended o (w.out x) es
section
variable (w:ah)(x:Array (Nat×ByteArray))
@[simp] theorem Lu (a:Addr):(w.out x).cell? a=w.cell? a:=rfl
@[simp] theorem apz (r:Nat):(w.out x).shape? r=w.shape? r:=rfl
@[simp] theorem an0 (a:Addr):(w.out x).frozen? a=w.frozen? a:=rfl
@[simp] theorem Si (a:Addr) (v:ai):(w.out x).setCell a v=(w.setCell a v).out x:=rfl
theorem Vo(a:Addr)(n:Nat):(w.out x).freeze a n=(w.freeze a n).out x:=by unfold World.freeze;split<;>rfl
@[simp] theorem ER:(w.out x).heap=w.heap:=rfl
@[simp] theorem abG:(w.out x).tape=w.tape:=rfl
@[simp] theorem Yv:(w.out x).drawn=w.drawn:=rfl
@[simp] theorem apA:(w.out x).os=w.os:=rfl
theorem Sj(p:aN)(a:Addr)(b:Bool):(w.out x).farLoad p a b=w.farLoad p a b:=rfl
theorem Xf(p:aN)(at_:Addr)(u:aF)(k:Addr)(v:ai)(b:Bool):
  (w.out x).viewStore p at_ u k v b=(w.viewStore p at_ u k v b).map λ(w',t)=>(w'.out x,t):=by
 unfold World.viewStore;have e:(w.out x).seen p at_ u k b=w.seen p at_ u k b:=rfl;rw[e];cases (!tight p p.depth u)
 .simp only[dC,bQ];cases w.seen p at_ u k b with
  |error y=>rfl
  |ok y=>
   obtain⟨c,e,fz,first,like,cells⟩:=y;simp only[bind,Except.bind,pure,Except.pure];cases v.bytes? with
   |none=>rfl
   |some bs=>
    simp only;split
    .rfl
    .split<;>rfl
 .rfl
theorem O4(p:aN)(a:Addr)(v:ai)(b:Bool):(w.out x).farStore p a v b=(w.farStore p a v b).map λ(w',t)=>(w'.out x,t):=by
 unfold World.farStore;simp only[ER];split
 .rw[Xf];cases w.viewStore p _ _ a v b<;>rfl
 .rfl
theorem amN{α:Type}(k:Ask α):∀w:ah,(w.out x).ask k=((w.ask k).1,(w.ask k).2.out x):=by
 induction k with
 |done a=>intro w;rfl
 |ask what range k ih=>
  intro w;simp only[World.ask];split
  .exact ih 0 w
  .exact ih _ {w with drawn:=w.drawn+1}
theorem ZW(c:Sys):(w.out x).sys c=((w.sys c).1,(w.sys c).2.out x):=by unfold World.sys;rw[amN];simp only[apA];generalize w.ask (Kernel.perform c w.os)=q;obtain⟨⟨r,os⟩,w'⟩:=q;cases r<;>rfl
theorem LD{α:Type}(p:aN)(s:Sem α):∀w:ah,s.run p (w.out x)=(s.run p w).out x:=by
 induction s with
 |pure a=>intro w;rfl
 |load m a k ih=>
  intro w;simp only[Sem.run,Lu];split
  .exact ih _ w
  .rw[Sj];split
   .exact ih _ w
   .rfl
 |store m a v k ih=>
  intro w
  have key:(match(w.out x).cell? a with
   |some _=>if(w.out x).frozen? a then .halt (.unsupported (.unsafePointer "a write to bytes that a string shares")) (w.out x)else k.run p ((w.out x).setCell a v)
   |none=>match(w.out x).farStore p a v (m==.atomic)with
    | .ok (w,_)=>k.run p w
    | .error h=>.halt h (w.out x))=((match w.cell? a with
   |some _=>if w.frozen? a then .halt (.unsupported (.unsafePointer "a write to bytes that a string shares")) w else k.run p (w.setCell a v)
   |none=>match w.farStore p a v (m==.atomic)with
    | .ok (w,_)=>k.run p w
    | .error h=>.halt h w:Result α)).out x:=by
   simp only[Lu,Si];split
   .by_cases hz:w.frozen? a=true
    .exact azO
    .rw[au (show¬(w.out x).frozen? a=true from hz),au hz];exact ih _
   .rw[O4];cases w.farStore p a v (m==.atomic)with
    |error h=>rfl
    |ok y=>exact ih _
  cases v<;>first|exact key|rfl
 |new o k ih=>intro w;exact ih w.heap.size {w with heap:=w.heap.push o}
 |shape r k ih=>intro w;exact ih _ _
 |freeze a n k ih=>intro w;simp only[Sem.run,Vo];exact ih _
 |frozen a k ih=>intro w;exact ih _ _
 |getObj r k ih=>
  intro w;simp only[Sem.run,ER];split
  .rfl
  .exact ih _ _
  .rfl
 |setObj r o k ih=>
  intro w;simp only[Sem.run,ER];split
  .rfl
  .exact ih {w with heap:=w.heap.setIfInBounds r o}
  .rfl
 |choose q k ih=>
  intro w;simp only[Sem.run,abG,Yv];split
  .exact ih _ _
  .exact ih _ {w with drawn:=w.drawn+1}
 |sys c k ih=>
  intro w;simp only[Sem.run,ZW];exact ih _ _
 |program k ih=>intro w;exact ih _ _
 |mark m k ih=>intro w;exact ih _
 |halt h=>intro w;rfl
theorem A_{α:Type}(p:aN)(s:Sem α):∀(w:ah)(es:aH),s.runT p (w.out x) es=((s.runT p w es).1.out x,(s.runT p w es).2):=by
 induction s with
 |pure a=>intro w es;rfl
 |load m a k ih=>
  intro w es;simp only[Sem.runT,Lu];split
  .exact ih _ w _
  .rw[Sj];split
   .exact ih _ w _
   .rfl
 |store m a v k ih=>
  intro w es
  have key:(match(w.out x).cell? a with
   |some _=>if(w.out x).frozen? a then(.halt (.unsupported (.unsafePointer "a write to bytes that a string shares")) (w.out x),es)else k.runT p ((w.out x).setCell a v) (es.push ⟨.cell a,true,m==.atomic⟩)
   |none=>match(w.out x).farStore p a v (m==.atomic)with
    | .ok (w,touched)=>k.runT p w (es++touched.toArray.map (⟨.cell ·,true,m==.atomic⟩))
    | .error h=>(.halt h (w.out x),es))=((match w.cell? a with
   |some _=>if w.frozen? a then(.halt (.unsupported (.unsafePointer "a write to bytes that a string shares")) w,es)else k.runT p (w.setCell a v) (es.push ⟨.cell a,true,m==.atomic⟩)
   |none=>match w.farStore p a v (m==.atomic)with
    | .ok (w,touched)=>k.runT p w (es++touched.toArray.map (⟨.cell ·,true,m==.atomic⟩))
    | .error h=>(.halt h w,es):Result α×aH).1.out x,(match w.cell? a with
   |some _=>if w.frozen? a then(.halt (.unsupported (.unsafePointer "a write to bytes that a string shares")) w,es)else k.runT p (w.setCell a v) (es.push ⟨.cell a,true,m==.atomic⟩)
   |none=>match w.farStore p a v (m==.atomic)with
    | .ok (w,touched)=>k.runT p w (es++touched.toArray.map (⟨.cell ·,true,m==.atomic⟩))
    | .error h=>(.halt h w,es):Result α×aH).2):=by
   simp only[Lu,Si];split
   .by_cases hz:w.frozen? a=true
    .exact azO
    .rw[au (show¬(w.out x).frozen? a=true from hz),au hz];exact ih _ _
   .rw[O4];cases w.farStore p a v (m==.atomic)with
    |error h=>rfl
    |ok y=>exact ih _ _
  cases v<;>first|exact key|rfl
 |new o k ih=>intro w es;exact ih w.heap.size {w with heap:=w.heap.push o} es
 |shape r k ih=>intro w es;exact ih _ _ _
 |freeze a n k ih=>intro w es;simp only[Sem.runT,Vo];exact ih _ _
 |frozen a k ih=>intro w es;exact ih _ _ _
 |getObj r k ih=>
  intro w es;simp only[Sem.runT,ER];split
  .rfl
  .exact ih _ _ _
  .rfl
 |setObj r o k ih=>
  intro w es;simp only[Sem.runT,ER];split
  .rfl
  .exact ih {w with heap:=w.heap.setIfInBounds r o} _
  .rfl
 |choose q k ih=>
  intro w es;simp only[Sem.runT,abG,Yv];split
  .exact ih _ _ _
  .exact ih _ {w with drawn:=w.drawn+1} _
 |sys c k ih=>
  intro w es;simp only[Sem.runT,ZW];exact ih _ _ _
 |program k ih=>intro w es;exact ih _ _ _
 |mark m k ih=>intro w es;exact ih _ _
 |halt h=>intro w es;rfl
end
section
variable (p:aN)(x:Array (Nat×ByteArray))
theorem Az(es:aH)(s:GStep):(GStep.after es s).out x=GStep.after es (s.out x):=by cases s<;>rfl
theorem O5(fr:aJ)(m:String)(w:ah):endThrow fr m (w.out x)=(endThrow fr m w).out x:=rfl
theorem IW(fr:aJ)(v:ai)(w:ah):endPrinting p fr v (w.out x)=(endPrinting p fr v w).out x:=by unfold endPrinting;dsimp only;split<;>rfl
theorem O6(fr:aJ)(cs:aP)(d:Option Dying)(m:String)(w:ah):endFatal p fr cs d m (w.out x)=(endFatal p fr cs d m w).out x:=by
 unfold endFatal;dsimp only;rw[LD];generalize Sem.run p _ w=r;cases r with
 |ok a w=>rfl
 |halt h w=>cases h<;>rfl
theorem abH(w:ah)(fd:Nat)(t:ByteArray)(o:Outcome):endWith (w.out x) fd t o=(endWith w fd t o).out x:=by unfold endWith;rw[ZW];generalize w.sys (.write fd t)=q;obtain⟨r,w'⟩:=q;cases r<;>(dsimp only;try split)<;>rfl
theorem abI(fr:aJ)(d:Dying)(f:Fatal)(w:ah):writeOn p fr d f (w.out x)=(writeOn p fr d f w).out x:=by
 unfold writeOn;dsimp only;split
 .rfl
 .rw[A_];generalize Sem.runT p _ w #[]=r;obtain⟨r,es⟩:=r;cases r with
  |ok a w=>rfl
  |halt h w=>cases h<;>rfl
theorem amO(fr:aJ)(d:Dying)(w:ah):die p fr d (w.out x)=(die p fr d w).out x:=by
 unfold die;split
 .exact abI p x _ _ _ _
 .split
  .show(if printLockHeld p w then _ else _)=_;split
   .rfl
   .exact abH x _ _ _ _
  .dsimp only;split
   .rfl
   .exact azk
   .rw[A_];generalize Sem.runT p _ w #[]=r;obtain⟨r,es⟩:=r;dsimp only;rw[Az]
    congr 1
    cases r with
    |ok a w=>
     cases a<;>try rfl
     rename_i v;cases v<;>rfl
    |halt h w=>cases h<;>first|rfl|exact IW p x _ _ _
   .rfl
theorem Ie(main:Bool)(fr:aJ)(cs:aP)(d:Option Dying)(v:ai)(w:ah):doReturn p main fr cs d v (w.out x)=(doReturn p main fr cs d v w).out x:=by
 unfold doReturn;cases cs with
 |cons c rest=>dsimp only;cases fr.kind<;>rfl
 |nil=>
  dsimp only;split
  .rfl
  .rfl
  .split
   .rfl
   .split<;>rfl
theorem Yw(w:ah):∀(n:Nat)(f:aU),p.found (w.out x) n f=p.found w n f
 |0,_=>rfl
 |n+1,f=>by unfold Program.found;simp only[Yw w n];rfl
theorem Sl(w:ah):∀(n:Nat)(l s:List aU),p.brought (w.out x) n l s=p.brought w n l s
 |0,_,_=>rfl
 |n+1,[],s=>rfl
 |n+1,f::l,s=>by unfold Program.brought;simp only[Sl w n];rfl
theorem agP(fr:aJ)(cs:aP)(d:Option Dying)(g:Nat)(w:ah):early p fr cs d g (w.out x)=(early p fr cs d g w).out x:=by
 have ny:∀w:ah,(match(w.out x).heap[g]? with
  |some (.pending c elem)=>(.go {frame:=fr,callers:=cs,status:=.running,dying:=d} {w.out x with heap:=(w.out x).heap.setIfInBounds g (.cells c elem)}:GStep)
  |_=>.ended (.stuck "early: the variable does not wait" (fr.pos p)) (w.out x))=(match w.heap[g]? with
  |some (.pending c elem)=>(.go {frame:=fr,callers:=cs,status:=.running,dying:=d} {w with heap:=w.heap.setIfInBounds g (.cells c elem)}:GStep)
  |_=>.ended (.stuck "early: the variable does not wait" (fr.pos p)) w).out x:=by
  intro w;simp only[ER];split<;>rfl
 unfold early;dsimp only;simp only[Yw,Sl];split
 .exact ny w
 .split
  .rfl
  .split
   .exact ny w
   .split
    .rename_i h;rw[ay (show(((p.code? _).bind λc=>(readies c).getLast?).bind w.shape?).isSome=true from h)];exact ny w
    .rename_i h;rw[au (show¬(((p.code? _).bind λc=>(readies c).getLast?).bind w.shape?).isSome=true from h)];split
     .rfl
     .rfl
     .rfl
     .exact ny w
     .split
      .rfl
      .split
       .exact ny w
       .rw[LD];generalize Sem.run p _ w=r;cases r with
        |ok a w=>cases a<;>first|exact ny w|(dsimp only[Result.out];rfl)
        |halt h w=>rfl
end
section
variable (p:aN)(x:Array (Nat×ByteArray))
theorem Ig{c:Prop}[Decidable c]{a b a' b':GStep}(h:a'=a.out x)(h':b'=b.out x):(if c then a' else b')=(if c then a else b).out x:=by
 by_cases hc:c
 .rw[ay hc,ay hc];exact h
 .rw[au hc,au hc];exact h'
theorem QM(fr:aJ)(cs:aP)(d:Option Dying)(c:Deferred)(w:ah):callDeferred p fr cs d c (w.out x)=(callDeferred p fr cs d c w).out x:=by
 unfold callDeferred;refine Ig x rfl ?_;rw[A_];generalize Sem.runT p _ w #[]=r;obtain⟨r,es⟩:=r;dsimp only;rw[Az];cases r with
 |ok a w=>
  dsimp only[Result.out];refine bI _ ?_;cases a with
  |recover=>dsimp only;split<;>rfl
  |alone b v=>cases b<;>rfl
  |coroswitch c e=>cases e<;>rfl
  |_=>rfl
 |halt h w=>
  cases h with
  |fatal m=>exact bI _ (O6 p x _ _ _ _ _)
  |throw m=>exact bI _ (O5 x _ _ _)
  |_=>rfl
theorem adT(main:Bool)(fr:aJ)(cs:aP)(d:Option Dying)(w:ah):unwind p main fr cs d (w.out x)=(unwind p main fr cs d w).out x:=by
 unfold unwind;split
 .rw[A_];generalize Sem.runT p _ w #[]=r;obtain⟨r,es⟩:=r;dsimp only;rw[Az];cases r<;>rfl
 .exact QM p x _ _ _ _ _
 .cases fr.mode with
  |run=>rfl
  |panicking chain=>
   refine Ig x rfl ?_;cases cs with
   |cons c rest=>rfl
   |nil=>
    cases d with
    |none=>
     refine Ig x rfl ?_;rw[LD];generalize Sem.run p _ w=r;cases r with
     |ok a w=>rfl
     |halt h w=>cases h<;>rfl
    |some d=>
     dsimp only;split
     .exact IW p x _ _ _
     .rfl
  |returning=>
   dsimp only;split
   .exact Ie p x _ _ _ _ _ _
   .rw[A_];generalize Sem.runT p _ w #[]=r;obtain⟨r,es⟩:=r;dsimp only;rw[Az];cases r with
    |ok a w=>exact bI _ (Ie p x _ _ _ _ _ _)
    |halt h w=>cases h<;>rfl
theorem GZ(listen:Bool)(fr:aJ)(cs:aP)(d:Option Dying)(s:Sem Next)(w:ah):stepG.apply p listen fr cs d s (w.out x)=(stepG.apply p listen fr cs d s w).out x:=by
 unfold stepG.apply
 have e:(if listen=true then s.runT p (w.out x) #[]else(s.run p (w.out x),#[]))=((if listen=true then s.runT p w #[]else(s.run p w,#[])).1.out x,(if listen=true then s.runT p w #[]else(s.run p w,#[])).2):=by
  cases listen
  .simp only[dC,bQ,LD]
  .simp only[aX,A_]
 rw[e];generalize(if listen=true then s.runT p w #[]else(s.run p w,#[]))=r;obtain⟨r,es⟩:=r;dsimp only;rw[Az];cases r with
 |ok a w=>
  dsimp only[Result.out];refine bI _ ?_;cases a with
  |callThen d r s wr=>dsimp only;split<;>rfl
  |row r avg=>dsimp only;split<;>rfl
  |stack r s=>dsimp only;split<;>rfl
  |recover=>dsimp only;split<;>rfl
  |spawn d=>exact Ig x rfl rfl
  |_=>rfl
 |halt h w=>
  cases h with
  |fatal m=>exact bI _ (O6 p x _ _ _ _ _)
  |throw m=>exact bI _ (O5 x _ _ _)
  |unsupported u=>
   cases u with
   |initOrder g=>exact bI _ (agP p x _ _ _ _ _)
   |_=>rfl
  |_=>rfl
theorem ajI(listen:Bool)(fr:aJ)(cs:aP)(d:Option Dying)(w:ah):stepG.oper p listen fr cs d (w.out x)=(stepG.oper p listen fr cs d w).out x:=by
 unfold stepG.oper;cases fr.oper? with
 |none=>rfl
 |some o=>
  dsimp only;split<;>exact GZ p x _ _ _ _ _ _
def adU(main:Bool)(fr:aJ)(cs:aP)(d:Option Dying)(w:ah)(jump:Option Code):GStep:=
 match fr.roundOf with
 |none=>if jump matches none|some .ret then .go {frame:={fr with mode:=.returning},callers:=cs,status:=.running,dying:=d} w else .ended (.stuck "exit, goto: no such block or label" (fr.pos p)) w
 |some l=>
  let(r,es):=(Instr.endRound l jump).runT p w #[]
  GStep.after (seen p fr.fn es)<|match r with
  | .ok v w=>doReturn p main fr cs d v w
  | .halt _ w=>.ended (.stuck "range over a function: no such loop" (fr.pos p)) w
theorem Ih(main:Bool)(fr:aJ)(cs:aP)(d:Option Dying)(w:ah)(jump:Option Code):adU p main fr cs d (w.out x) jump=(adU p main fr cs d w jump).out x:=by
 unfold adU;cases fr.roundOf with
 |none=>exact Ig x rfl rfl
 |some l=>
  dsimp only;rw[A_];generalize Sem.runT p _ w #[]=r;obtain⟨r,es⟩:=r;dsimp only;rw[Az];cases r with
  |ok a w=>exact bI _ (Ie p x _ _ _ _ _ _)
  |halt h w=>rfl
theorem ajJ(main listen:Bool)(fr:aJ)(cs:aP)(d:Option Dying)(w:ah):stepG.exec p main listen fr cs d (w.out x)=(stepG.exec p main listen fr cs d w).out x:=by
 unfold stepG.exec
 extract_lets go to lost leave to' auI aug
 split
 .exact Ih p x main fr cs d w none
 .exact Ih p x main fr cs d w (some .ret)
 .rfl
 .rfl
 .rfl
 .rfl
 .rfl
 .split<;>rfl
 .rfl
 .rfl
 .rfl
 .rfl
 .cases exitTo _ _ with
  |none=>exact Ih p x main fr cs d w (some (.exit _))
  |some k=>rfl
 .cases gotoIn _ _ with
  |none=>exact Ih p x main fr cs d w (some (.goto _))
  |some k=>rfl
 .rw[A_];generalize Sem.runT p _ w #[]=r;obtain⟨r,es⟩:=r;dsimp only;rw[Az];cases r with
  |ok a w=>exact bI _ (GZ p x _ _ _ _ _ _)
  |halt h w=>rfl
 .rfl
 .exact GZ p x _ _ _ _ _ _
 .rw[A_];generalize Sem.runT p _ w #[]=r;obtain⟨r,es⟩:=r;dsimp only;rw[Az];cases r with
  |ok a w=>rfl
  |halt h w=>cases h<;>rfl
 .rfl
 .exact GZ p x _ _ _ _ _ _
 .cases Extern.next _ with
  |none=>rfl
  |some e=>exact GZ p x _ _ _ _ _ _
 .refine Ig x rfl ?_;exact azk
 .rfl
 .exact Ig x (ajI p x _ _ _ _ _) rfl
theorem LG(main:Bool)(g:aG)(w:ah):stepG p main g (w.out x)=(stepG p main g w).out x:=by
 obtain⟨fr,cs,st,d,of⟩:=g;unfold stepG;dsimp only;split
 .exact amO p x _ _ _
 .exact ajJ p x _ _ _ _ _ _
 .exact adT p x _ _ _ _ _
theorem Ii{main:Bool}{g g':aG}{w w':ah}{es:aH}(h:stepG p main g (w.out x)=.go g' w' es):stepG p main g w=.go g' (w'.out w.output) es/\w'.output=x:=by
 have h1:=LG p x main g w;rw[h]at h1;have h2:=LG p w.output main g w;rw[show w.out w.output=w from rfl]at h2;cases hs:stepG p main g w with
 |go g1 w1 MC=>
  rw[hs]at h1 h2;simp only[GStep.out,GStep.go.injEq]at h1 h2⊢;obtain⟨rfl,rfl,rfl⟩:=h1;exact⟨⟨rfl,h2.2.1,rfl⟩,rfl⟩
 |_=>rw[hs]at h1;cases h1
theorem TI{main:Bool}{g g' c:aG}{w w':ah}{es:aH}(h:stepG p main g (w.out x)=.spawn g' c w' es):stepG p main g w=.spawn g' c (w'.out w.output) es/\w'.output=x:=by
 have h1:=LG p x main g w;rw[h]at h1;have h2:=LG p w.output main g w;rw[show w.out w.output=w from rfl]at h2;cases hs:stepG p main g w with
 |spawn g1 c1 w1 MC=>
  rw[hs]at h1 h2;simp only[GStep.out,GStep.spawn.injEq]at h1 h2⊢;obtain⟨rfl,rfl,rfl,rfl⟩:=h1;exact⟨⟨rfl,rfl,h2.2.2.1,rfl⟩,rfl⟩
 |_=>rw[hs]at h1;cases h1
end
end Go.Gh
namespace Go.Gh
open Go.Conc Go.ConcN
open Go.ConcR (Payload)
def IV(w:ah):Nat:=match w.output.toList with|[]=>0|(t,_)::_=>t
def UI(w:ah):aA:=(w.output.toList.drop 1).map (·.1)
def book(t:Nat)(l:aA):Array (Nat×ByteArray):=((t,ByteArray.empty)::l.map λb=>(b,ByteArray.empty)).toArray
theorem x8(w:ah)(t:Nat)(l:aA):IV (w.out (book t l))=t:=by simp[IV,book,World.out]
theorem vP(w:ah)(t:Nat)(l:aA):UI (w.out (book t l))=l:=by simp[UI,book,World.out,av4]
def qZ(w:ah)(b:Nat):Prop:=b∈UI w\/(IV w<=b/\b<w.heap.size)
def gw(w:ah)(l:aA):ah:=w.out (book w.heap.size l)
theorem yZ(w:ah)(l:aA)(b:Nat):qZ (gw w l) b↔b∈l:=by unfold qZ gw;rw[vP,x8];exact⟨λh=>h.elim id λh=>absurd h.2 (by simp only[ER];omega),.inl⟩
class rq where
 old:Nat->Prop
class sF where
 el:Nat
 ts:Nat
section
variable [Payload](Wg C n B:Nat)(Cl:Nat->Prop)
structure Ro(w w₁:ah):Prop where
 size:w.heap.size<=w₁.heap.size
 tape:w₁.tape=w.tape
 os:w₁.os=w.os
 tag:IV w₁=w₁.heap.size
 own:∀b,b∈UI w₁↔qZ w b
 low:∀b,b<B->b≠Wg->b≠C->w₁.heap[b]?=w.heap[b]?
 mine:∀b,qZ w b->w₁.heap[b]?=w.heap[b]?
 cell:∀i,Cl i->w₁.cell? ⟨C,i,none⟩=w.cell? ⟨C,i,none⟩
 pay:PayAt C n w->PayAt C n w₁
variable [rq]
def EvG(w w':ah)(e:Event):Prop:=∃a wr,e=⟨.cell a,wr,false⟩/\a.block<w'.heap.size/\
 (qZ w a.block\/w.heap.size<=a.block\/(∃i,a=⟨C,i,none⟩/\Cl i)\/(a.block<B/\a.block≠Wg/\a.block≠C/\wr=false/\¬rq.old a.block))
structure Dg(w w':ah)(es:aH):Prop where
 size:w.heap.size<=w'.heap.size
 tape:w'.tape=w.tape
 os:w'.os=w.os
 frame:∀b,b<w.heap.size->¬qZ w b->b≠C->w'.heap[b]?=w.heap[b]?
 cells:∀i,¬Cl i->w'.cell? ⟨C,i,none⟩=w.cell? ⟨C,i,none⟩
 pay:PayAt C n w->PayAt C n w'
 evs:∀e∈es,EvG Wg C B Cl w w' e
end
section
variable [Payload]{Wg C n B:Nat}{Cl:Nat->Prop}{w w₁ w₂:ah}
theorem Ro.yL(h:Ro Wg C n B Cl w w₁)(b:Nat):qZ w₁ b↔qZ w b:=by unfold qZ;rw[h.own,h.tag];exact⟨λx=>x.elim id λy=>absurd y ag,.inl⟩
theorem Ro.trans(h:Ro Wg C n B Cl w w₁)(h':Ro Wg C n B Cl w₁ w₂):Ro Wg C n B Cl w w₂:=
 ⟨bu h.size h'.size,h'.tape.trans h.tape,h'.os.trans h.os,h'.tag,λb=>(h'.own b).trans (h.yL b),λb h1 h2 h3=>(h'.low b h1 h2 h3).trans (h.low b h1 h2 h3),
  λb hb=>(h'.mine b ((h.yL b).2 hb)).trans (h.mine b hb),λi hi=>(h'.cell i hi).trans (h.cell i hi),h'.pay∘h.pay⟩
theorem Dg.idle[rq](w:ah):Dg Wg C n B Cl w w #[]:=⟨az _,rfl,rfl,λ_ _ _ _=>rfl,λ_ _=>rfl,id,ax⟩
structure QN(ty:aF)(Wg C n:Nat)(lo:aA)(Cm:Nat->Prop)(W W':ah):Prop where
 size:W.heap.size<=W'.heap.size
 tape:W'.tape=W.tape
 os:W'.os=W.os
 frame:∀b,b<W.heap.size->b∉lo->b≠C->b≠Wg->W'.heap[b]?=W.heap[b]?
 cells:∀i,¬Cm i->W'.cell? ⟨C,i,none⟩=W.cell? ⟨C,i,none⟩
 pay:PayAt C n W->PayAt C n W'
 live:WgLive ty Wg W->WgLive ty Wg W'
variable {ty:aF}{lo l:aA}{Cm:Nat->Prop}{W W':ah}
theorem QN.refl(W:ah):QN ty Wg C n lo Cm W W:=⟨az _,rfl,rfl,λ_ _ _ _ _=>rfl,λ_ _=>rfl,id,id⟩
theorem QN.at(W:ah)(d:Nat):QN ty Wg C n lo Cm W (W.at d):=⟨az _,rfl,rfl,λ_ _ _ _ _=>rfl,λ_ _=>rfl,id,id⟩
theorem QN.of_wg(h:Aside Wg W W')(hl:WgLive ty Wg W')(hCW:C≠Wg):QN ty Wg C n lo Cm W W':=
 ⟨fQ h.size.symm,h.tape,h.os,λb _ _ _ hb=>h.block b hb,λi _=>cell_of_block (h.block C hCW) i,λ⟨cs,hc,hn⟩=>⟨cs,(h.block C hCW).trans hc,hn⟩,λ_=>hl⟩
theorem QN.ro(h:QN ty Wg C n lo Cm W W')(hB:B<=W.heap.size)(hlo:∀b∈lo,B<=b)(hl:∀b∈l,b∉lo/\b<W.heap.size/\b≠C/\b≠Wg)(hCl:∀i,Cl i->¬Cm i):Ro Wg C n B Cl (gw W l) (gw W' l):=by
 refine⟨h.size,h.tape,h.os,?_,λb=>?_,λb hb h1 h2=>h.frame b ag (λhm=>by have:=hlo b hm;omega) h2 h1,λb hb=>?_,λi hi=>h.cells i (hCl i hi),h.pay⟩
 .unfold gw;rw[x8];rfl
 .rw[yZ];unfold gw;rw[vP]
 .rw[yZ]at hb;obtain⟨h1,h2,h3,h4⟩:=hl b hb;exact h.frame b h2 h1 h3 h4
def fresh(a b:Nat):aA:=List.range' a (b-a)
omit [Payload]in
theorem Ey{a b x:Nat}:x∈fresh a b↔a<=x/\x<b:=by unfold fresh;rw[List.mem_range'_1];omega
theorem ajK(hW:W'=w₁.out W.output)(ho:w₁.output=book W.heap.size l):Ro Wg C n B Cl w₁ (gw W' (l++fresh W.heap.size W'.heap.size)):=by
 subst hW
 have hm:∀b,qZ w₁ b↔b∈l++fresh W.heap.size w₁.heap.size:=by
  intro b;have e:w₁=w₁.out (book W.heap.size l):=by rw[<-ho];rfl
  rw[e];unfold qZ;rw[vP,x8,lV,Ey]
 refine⟨az _,rfl,rfl,?_,λb=>?_,λ_ _ _ _=>rfl,λ_ _=>rfl,λ_ _=>rfl,id⟩
 .unfold gw;rw[x8];rfl
 .unfold gw;rw[vP,hm];rfl
theorem Dg.chg[rq]{es:aH}(h:Dg Wg C n B Cl (gw W l) w₁ es)(hW:W'=w₁.out W.output)(xg:Wg∉l)(hWs:Wg<W.heap.size)(hCW:C≠Wg):QN ty Wg C n l Cl W W':=by
 subst hW;have hf:∀b,b<W.heap.size->b∉l->b≠C->w₁.heap[b]?=W.heap[b]?:=λb h1 h2 h3=>h.frame b h1 (by rw[yZ];exact h2) h3
 refine⟨h.size,h.tape,h.os,λb h1 h2 h3 _=>hf b h1 h2 h3,λi hi=>h.cells i hi,h.pay,λ⟨st,sm,x⟩=>⟨st,sm,?_⟩⟩;have:=hf Wg hWs xg (dU hCW);exact x.of_block this

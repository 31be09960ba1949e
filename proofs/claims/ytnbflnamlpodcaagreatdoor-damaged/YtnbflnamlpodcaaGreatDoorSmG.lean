import Derived.Test.YtnbflnamlpodcaaGreatDoorAnB
namespace Go.Proofs.Y
open Go.RowKit Go.Deep Go.Lf Go.Conc Go.Hp
section
variable {X:Nat->Prop}{Y:Nat->Option Obj}{D:Nat->World->Array Event->Prop}{Stop:Goroutine->World->Prop}{w:World}
variable {K N C m:Nat}{f:Nat->qY}{Dt:Nat->List UInt8}{pb:Nat}{vb va x4 x5:Value}
end
theorem Tryz.amk:(Tryz.prog.info? 34).map (λi=>(i.zero,i.size,i.bytes))=some (some (.slice none 0 0),1,24):=ag
theorem adB{w:World}{B n:Nat}{v:Value}{xs:List Value}{t:TypeId}(h:w.ownsRow B t 1 v n xs):NP v n:=by
 rcases h.2 with⟨h1,h0⟩|⟨g,cap,cur,h1,_,_,h4,_⟩
 .exact .inl ⟨h1,h0⟩
 .exact .inr ⟨g,0,cap,h1,h4⟩
theorem aml{w:World}{B n:Nat}{v:Value}{xs:List Value}{t:TypeId}(h:w.ownsRow B t 1 v n xs):v.oneCell'=true:=(qR.owned h).one
section
variable {X:Nat->Prop}{Y:Nat->Option Obj}{D:Nat->World->Array Event->Prop}{Stop:Goroutine->World->Prop}{w:World}
variable {K N C m:Nat}{f:Nat->qY}{Dt:Nat->List UInt8}{pb bh:Nat}{vb vo:Value}{z5:Int}{zo:List Int}{ov:Nat->Value}{Bs:Nat->List UInt8}{T:Array Value}
structure SoI(w:World)(N i:Nat)(xs:List Nat)(ov:Nat->Value)(v:Value)(wr:World):Prop where
 own:wr.ownsRow w.heap.size 34 1 v i ((List.range i).map λj=>ov (xs.getD j 0))
 AZ:sK w.heap.size w wr
end
section
variable {X:Nat->Prop}{Y:Nat->Option Obj}{D:Nat->World->Array Event->Prop}{Stop:Goroutine->World->Prop}{w:World}
variable {K N C m:Nat}{f:Nat->qY}{Dt:Nat->List UInt8}{pb:Nat}{bo:Option Addr}{cap ct gb gv gw cw:Nat}{T:Array Value}{ns Da:Nat->List UInt8}{vd va:Nat->Value}
end
section
variable {X:Nat->Prop}{Y:Nat->Option Obj}{D:Nat->World->Array Event->Prop}{Stop:Goroutine->World->Prop}{w:World}{h0 K N C m:Nat}{f:Nat->qY}{Dt:Nat->List UInt8}{xs:List Nat}{pb:Nat}{vb vt va:Value}
structure ShI(N bh:Nat)(L:Nat->List UInt8)(w:World):Prop where
 at_:∀i,i<N->∃v,w.cell? ⟨bh,i,none⟩=some v/\Zf w v (L i)
end
end Go.Proofs.Y
namespace Go.Proofs.Y
open Go.RowKit Go.Deep Go.Lf Go.Conc Go.ConcN Go.Gh Go.Hp
open Go.ConcR (Payload WgAt wgBlock)
structure Kz(h0:Nat)(w w':World):Prop where
 os:w'.os=w.os
 output:w'.output=w.output
 size:w.heap.size<=w'.heap.size
 block:∀b,b<h0->w'.heap[b]?=w.heap[b]?
theorem Kz.trans{h0:Nat}{a b c:World}(h:Kz h0 a b)(h':Kz h0 b c):Kz h0 a c:=⟨h'.os.trans h.os,h'.output.trans h.output,aJ h.size h'.size,λx hx=>(h'.block x hx).trans (h.block x hx)⟩
theorem adC{h0:Nat}{X:Nat->Prop}{Y:Nat->Option Obj}{W W' v v':World}(hs:qL X Y W v)(xn:qL X Y W' v')(hb:sK h0 v v')(hX:∀b,X b->h0<=b):Kz h0 W W':=by obtain⟨τ,d,h⟩:=hs;obtain⟨τ',d',h'⟩:=xn;refine⟨h'.os.trans (Eq.trans (show v'.os=v.os from hb.os) h.os.symm),h'.out.trans (Eq.trans (show v'.output=v.output from hb.output) h.out.symm),?_,λb qE=>xE.agree h h' (λhx=>by have:=hX b hx;omega) (hb.blk qE)⟩;have e1:W.heap.size=v.heap.size:=h.size;have e2:W'.heap.size=v'.heap.size:=h'.size;have:=hb.sH;omega
theorem KpX.kz{h0:Nat}{X:Nat->Prop}{W W':World}(h:KpX X W W')(hX:∀b,X b->h0<=b)(hW:h0<=W.heap.size):Kz h0 W W':=⟨h.os,h.output,h.size,λb hb=>h.block b ae (λhx=>by have:=hX b hx;omega)⟩
theorem IC.sub{w w':World}{v:Value}{zs:List Int}(h:IC w v zs)(hs:Sub w w'):IC w' v zs:=by
 refine⟨h.abv,?_⟩;rcases h.lies with h1|⟨b,off,cap,h1,h2,h3⟩
 .exact .inl h1
 .exact .inr ⟨b,off,cap,h1,aK h2 hs.1,λj z hz=>hs.cell (h3 j z hz)⟩
def AtE(X:Nat->Prop)(Y:Nat->Option Obj)(K N C:Nat)(vs:Value)(fr:Frame)(v:World)(gr:Goroutine)(W:World):Prop:=
 gr=G ((base 8).at ⟨#[vs,.agg #[.int .i64 ((K:Nat):Int),.int .i64 ((N:Nat):Int),.int .i64 ((C:Nat):Int)]]++Array.replicate 26 undef,[]⟩ [.code xQ]) [fr]/\qL X Y W v

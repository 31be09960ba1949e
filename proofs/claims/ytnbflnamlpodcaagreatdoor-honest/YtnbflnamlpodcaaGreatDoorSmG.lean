import Derived.Test.YtnbflnamlpodcaaGreatDoorAnB
namespace Go.Proofs.Y
open Go.RowKit Go.Deep Go.Lf Go.Conc Go.Hp
section
variable {X:Nat->Prop}{Y:Nat->aV}{D:Nat->ah->aH->Prop}{Stop:aG->ah->Prop}{w:ah}
variable {K N C m:Nat}{f:Nat->qX}{Dt:Nat->ak}{pb:Nat}{vb va x4 x5:ai}
end
theorem Tryz.amV:(Tryz.prog.info? 34).map (λi=>(i.zero,i.size,i.bytes))=some (some (.slice none 0 0),1,24):=aj
theorem NU{w:ah}{B n:Nat}{v:ai}{xs:aK}{t:aF}(h:w.ownsRow B t 1 v n xs):Oz v n:=by
 rcases h.2 with⟨h1,h0⟩|⟨g,cap,cur,h1,_,_,h4,_⟩
 .exact .inl ⟨h1,h0⟩
 .exact .inr ⟨g,0,cap,h1,h4⟩
theorem amW{w:ah}{B n:Nat}{v:ai}{xs:aK}{t:aF}(h:w.ownsRow B t 1 v n xs):v.oneCell'=true:=(qU.owned h).one
section
variable {X:Nat->Prop}{Y:Nat->aV}{D:Nat->ah->aH->Prop}{Stop:aG->ah->Prop}{w:ah}
variable {K N C m:Nat}{f:Nat->qX}{Dt:Nat->ak}{pb bh:Nat}{vb vo:ai}{z5:Int}{zo:di}{ov:Nat->ai}{Bs:Nat->ak}{T:aB}
structure SoI(w:ah)(N i:Nat)(xs:aA)(ov:Nat->ai)(v:ai)(wr:ah):Prop where
 own:wr.ownsRow w.heap.size 34 1 v i ((List.range i).map λj=>ov (xs.getD j 0))
 AO:sH w.heap.size w wr
end
section
variable {X:Nat->Prop}{Y:Nat->aV}{D:Nat->ah->aH->Prop}{Stop:aG->ah->Prop}{w:ah}
variable {K N C m:Nat}{f:Nat->qX}{Dt:Nat->ak}{pb:Nat}{bo:aY}{cap ct gb gv gw cw:Nat}{T:aB}{ns Da:Nat->ak}{vd va:Nat->ai}
end
section
variable {X:Nat->Prop}{Y:Nat->aV}{D:Nat->ah->aH->Prop}{Stop:aG->ah->Prop}{w:ah}{h0 K N C m:Nat}{f:Nat->qX}{Dt:Nat->ak}{xs:aA}{pb:Nat}{vb vt va:ai}
structure ShI(N bh:Nat)(L:Nat->ak)(w:ah):Prop where
 at_:∀i,i<N->∃v,w.cell? ⟨bh,i,none⟩=some v/\aaD w v (L i)
end
end Go.Proofs.Y
namespace Go.Proofs.Y
open Go.RowKit Go.Deep Go.Lf Go.Conc Go.ConcN Go.Gh Go.Hp
open Go.ConcR (Payload WgAt wgBlock)
structure Kz(h0:Nat)(w w':ah):Prop where
 os:w'.os=w.os
 output:w'.output=w.output
 size:w.heap.size<=w'.heap.size
 block:∀b,b<h0->w'.heap[b]?=w.heap[b]?
theorem Kz.trans{h0:Nat}{a b c:ah}(h:Kz h0 a b)(h':Kz h0 b c):Kz h0 a c:=⟨h'.os.trans h.os,h'.output.trans h.output,bu h.size h'.size,λx hx=>(h'.block x hx).trans (h.block x hx)⟩
theorem QY{h0:Nat}{X:Nat->Prop}{Y:Nat->aV}{W W' v v':ah}(hs:qQ X Y W v)(xU:qQ X Y W' v')(hb:sH h0 v v')(hX:∀b,X b->h0<=b):Kz h0 W W':=by obtain⟨τ,d,h⟩:=hs;obtain⟨τ',d',h'⟩:=xU;refine⟨h'.os.trans (Eq.trans (show v'.os=v.os from hb.os) h.os.symm),h'.out.trans (Eq.trans (show v'.output=v.output from hb.output) h.out.symm),?_,λb qK=>xZ.agree h h' (λhx=>by have:=hX b hx;omega) (hb.blk qK)⟩;have e1:W.heap.size=v.heap.size:=h.size;have e2:W'.heap.size=v'.heap.size:=h'.size;have:=hb.sN;omega
theorem KpX.kz{h0:Nat}{X:Nat->Prop}{W W':ah}(h:KpX X W W')(hX:∀b,X b->h0<=b)(hW:h0<=W.heap.size):Kz h0 W W':=⟨h.os,h.output,h.size,λb hb=>h.block b ag (λhx=>by have:=hX b hx;omega)⟩
theorem Uc.sub{w w':ah}{v:ai}{zs:di}(h:Uc w v zs)(hs:Sub w w'):Uc w' v zs:=by
 refine⟨h.aga,?_⟩;rcases h.lies with h1|⟨b,off,cap,h1,h2,h3⟩
 .exact .inl h1
 .exact .inr ⟨b,off,cap,h1,bG h2 hs.1,λj z hz=>hs.cell (h3 j z hz)⟩

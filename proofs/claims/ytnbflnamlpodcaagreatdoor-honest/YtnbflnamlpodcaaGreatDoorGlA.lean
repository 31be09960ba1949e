import Derived.Test.YtnbflnamlpodcaaGreatDoorHqJ
import Derived.Test.YtnbflnamlpodcaaGreatDoorCoU
set_option maxHeartbeats 4000000
set_option maxRecDepth 100000
namespace Go.Proofs.Y
open Go.Proofs.Tryz
open Go.RowKit Go.Deep
def pre(sz:aA)(i:Nat):Nat:=(sz.take i).sum
theorem EF{sz:aA}{i:Nat}(h:i<sz.length):pre sz (i+1)=pre sz i+sz.getD i 0:=by unfold pre;rw[List.take_add_one,iU,cO h,bH,cO h];simp
theorem ajV(sz:aA)(i:Nat):pre sz i<=sz.sum:=by unfold pre;have:=bI List.sum (nM i sz);rw[iU]at this;omega
def Nz(sz:aA)(l:ak)(i:Nat):ak:=(l.drop (pre sz i)).take (sz.getD i 0)
structure CB(ns:List (ak))(sz:aA)(l:ak)(g i:Nat)(vd:Nat->ai)(w:ah):Prop where
 row:w.rowIs g 44 (ns.length*2) (λp=>if p/2<i then(if p%2=0 then rH (ns.getD (p/2) [])else vd (p/2))else(if p%2=0 then rH []else .slice none 0 0))
 dat:∀j,j<i->w.ownsRow (g+1) 5 1 (vd j) (Nz sz l j).length (sJ (Nz sz l j))
theorem CB.more{ns:List (ak)}{sz:aA}{l:ak}{g i:Nat}{vd:Nat->ai}{w w2:ah}{v':ai}(h:CB ns sz l g i vd w)(hi:i<ns.length)(hg:g<w.heap.size)(hb:Below w.heap.size w w2)(ho:w2.ownsRow w.heap.size 5 1 v' (Nz sz l i).length (sJ (Nz sz l i))):
  CB ns sz l g (i+1) (λj=>if j=i then v' else vd j) ((w2.setCell ⟨g,i*2,none⟩ (rH (ns.getD i []))).setCell ⟨g,i*2+1,none⟩ v')/\(∃u,w2.cell? ⟨g,i*2,none⟩=some u)/\w2.frozen? ⟨g,i*2,none⟩=false/\(∃u,(w2.setCell ⟨g,i*2,none⟩ (rH (ns.getD i []))).cell? ⟨g,i*2+1,none⟩=some u)/\(w2.setCell ⟨g,i*2,none⟩ (rH (ns.getD i []))).frozen? ⟨g,i*2+1,none⟩=false:=by
 have r:=h.row.of_block (hb.block g hg);have r1:=r.set (i*2) (rH (ns.getD i []));have r2:=r1.set (i*2+1) v';refine⟨⟨r2.congr λp hp=>?_,λj hj=>?_⟩,⟨_,r.cell (i:=i*2) ag⟩,r.frozen _,⟨_,r1.cell (i:=i*2+1) ag⟩,r1.frozen _⟩
 .by_cases e1:p=i*2+1
  .subst e1;rw[ay rfl,ay ag,au ag,ay ag]
  .rw[au e1];by_cases e2:p=i*2
   .subst e2;rw[ay rfl,ay ag,ay ag,show i*2/2=i by omega]
   .rw[au e2];by_cases e3:p/2<i
    .simp only[e3,show p/2<i+1 by omega,show¬p/2=i by omega,aX,bQ]
    .simp only[e3,show¬p/2<i+1 by omega,bQ]
 .have key:∀{v:ai}{m:Nat}{xs:aK},w2.ownsRow (g+1) 5 1 v m xs->((w2.setCell ⟨g,i*2,none⟩ (rH (ns.getD i []))).setCell ⟨g,i*2+1,none⟩ v').ownsRow (g+1) 5 1 v m xs:=λo=>eQ (eQ o (a:=⟨g,i*2,none⟩) (dV g) _) (a:=⟨g,i*2+1,none⟩) (dV g) _
  by_cases e:j=i
  .subst e;rw[ay rfl];exact key (ho.mono ag)
  .rw[au e];exact key (ads (h.dat j ag) hb (az _))
theorem qU.owned{w:ah}{B n:Nat}{v:ai}{xs:aK}{t:aF}(h:w.ownsRow B t 1 v n xs):qU w v xs:=by
 obtain⟨hl,h⟩:=h;rw[je]at hl;rcases h with⟨rfl,rfl⟩|⟨g,cap,cur,rfl,h2,h3,h4,h5,h6,h7⟩
 .exact⟨none,0,by rw[hl],ag,λj u hj=>by rw[l7 hl]at hj;simp at hj⟩
 .refine⟨some ⟨g,0,none⟩,cap,by rw[hl],ag,λj u hj=>⟨g,0,rfl,?_⟩⟩;have Jh:=(fJ.1 hj).1;rw[je]at h7;rw[bM,<-hj,<-h7,jX,ay ag];simp[World.cell?,h3]
theorem Yr{w:ah}{b off n cap:Nat}{l:ak}(h:qU w (.slice (some ⟨b,off,none⟩) n cap) (sJ l)){s t:Nat}(uw:s+t<=l.length)(c:Nat)(hc:t<=c):qU w (.slice (some ⟨b,off+s,none⟩) t c) (sJ ((l.drop s).take t)):=by
 have el:((l.drop s).take t).length=t:=aS;refine⟨some ⟨b,off+s,none⟩,c,by simp only[sJ,ji,el],by simp only[sJ,ji,el];exact hc,λj u hj=>⟨b,off+s,rfl,?_⟩⟩;have Jh:j<t:=by have:=(fJ.1 hj).1;simp only[sJ,ji,el]at this;exact this
 have e:(sJ l)[s+j]?=some u:=by rw[<-hj];simp only[sJ,dO,jX,ay Jh,avW]
 obtain⟨b',ahO,e',hc'⟩:=h.get e;cases e';rw[dW];exact hc'
theorem Sr(n:Nat)(hn:n<=1048576)(w:ah):(Instr.makeSlice 26 (.int .i64 (n:Int)) (.int .i64 (n:Int))).run prog w=.ok (.slice (some ⟨w.heap.size,0,none⟩) n n) (w.alloc (.cells (madeCells #[.string ⟨#[]⟩,.slice none 0 0] (n*2)) 44)):=by obtain⟨i0,Ak,yz,xA,wH⟩:=dm Tryz.Jn;have:=jQ (P:=prog) w 26 44 i0 _ underlying26 Ak yz .i64 .i64 n n ag ag ik ag;exact ayA
theorem CB.start(ns:List (ak))(sz:aA)(l:ak)(w:ah):CB ns sz l w.heap.size 0 (λ_=>undef) (w.alloc (.cells (madeCells #[.string ⟨#[]⟩,.slice none 0 0] (ns.length*2)) 44)):=by
 refine⟨?_,λj hj=>absurd hj ag⟩
 have:=World.rowIs_alloc w (madeCells #[.string ⟨#[]⟩,.slice none 0 0] (ns.length*2)) 44 (λp=>if p/2<0 then(if p%2=0 then rH (ns.getD (p/2) [])else undef)else(if p%2=0 then rH []else .slice none 0 0)) (λi hi=>by rw[iO]at hi;rw[au ag];rcases aw2 i with e|e<;>simp[madeCells,hi,e,rH])
 rw[iO]at this;exact this
theorem agX(ns:List (ak))(sz:aA)(l:ak)(vN vS:ai)(b off cap:Nat)(w:ah)(hN:qU w vN (xe ns))(hS:qU w vS (zV sz))(hD:qU w (.slice (some ⟨b,off,none⟩) l.length cap) (sJ l))(Ci:l.length<=cap)(Me:ns.length<=sz.length)(hsum:sz.sum<=l.length)(hn:ns.length<=1048576)(hl:l.length<=1048576):
  Calls prog 39 #[vN,vS,.slice (some ⟨b,off,none⟩) l.length cap] w λr w'=>Below w.heap.size w w'/\∃vd,r=.returned (.slice (some ⟨w.heap.size,0,none⟩) ns.length ns.length)/\CB ns sz l w.heap.size ns.length vd w':=by
 obtain⟨pn,cn,rfl⟩:=hN.len;obtain⟨ps,cs,rfl⟩:=hS.len;rw[wL]at hN⊢;rw[FW]at hS⊢;have mk:=Sr ns.length hn w;have h0:=CB.start ns sz l w;have b0:Below w.heap.size w (w.alloc (.cells (madeCells #[.string ⟨#[]⟩,.slice none 0 0] (ns.length*2)) 44)):=(aT _ _).alloc (az _) _;go_enter func39,ntmps39;go_wp2;generalize w.alloc (.cells (madeCells #[.string ⟨#[]⟩,.slice none 0 0] (ns.length*2)) 44)=w0 at*;generalize hg:w.heap.size=g at*
 go_loopw [2,8,9,15] (λv2 _ _ vi wr=>∃(i:Nat)(vd:Nat->ai)(o':Nat),i<=ns.length/\vi=.int .i64 (i:Int)/\v2=.slice (some ⟨b,o',none⟩) (l.length-pre sz i) (cap-pre sz i)/\(pre sz i<l.length->o'=off+pre sz i)/\Below g w wr/\CB ns sz l g i vd wr/\g<wr.heap.size) (λ_ _ _ vi _=>ns.length-(intOf vi).toNat)
 case atStart=>exact⟨0,_,off,ag,rfl,by simp[pre],λ_=>by simp[pre],b0,h0,by have:=h0.row.lt;omega⟩
 case round=>
  clear h0 b0;obtain⟨i,vd,o',hi,rfl,rfl,ho',hb,hC,hgs⟩:=hrel;by_cases qK:i<ns.length
  .have alo:(i:Int)<(ns.length:Int):=ag;have aaG:(i:Int)<(sz.length:Int):=ag;have EE:pre sz i+sz.getD i 0<=pre sz (i+1):=fQ (EF ag).symm;have CE:=ajV sz (i+1);obtain⟨gn,on,rfl,c1⟩:=hN.get (GV qK);obtain⟨gs,os,rfl,c2⟩:=hS.get (Uo (l:=sz) (j:=i) ag);have lt1:=rG c1;have lt2:=rG c2;replace c1:=(hb.cell (p:=⟨gn,on+i,none⟩) (by rw[<-hg];exact lt1)).trans c1;replace c2:=(hb.cell (p:=⟨gs,os+i,none⟩) (by rw[<-hg];exact lt2)).trans c2;have hD1:=hD.adW hb ag
   have aol:qU wr (.slice (some ⟨b,o',none⟩) (sz.getD i 0) (cap-pre sz i)) (sJ (Nz sz l i)):=by
    rcases fE (sz.getD i 0)with hq|hq
    .unfold Nz;rw[hq];exact⟨_,_,rfl,gY _,λj u hj=>oh⟩
    .rw[ho' ag];exact Yr hD1 (s:=pre sz i) (t:=sz.getD i 0) ag (cap-pre sz i) ag
   have k1:=Zd (Nz sz l i) _ wr aol (by unfold Nz;simp;omega);have Tq:=λw2 v' tX ho=>hC.more (w2:=w2) (v':=v') qK hgs tX ho
   have yE:((sz.getD i 0:Nat):Int)<=((cap-pre sz i:Nat):Int):=ag;have zU:((sz.getD i 0:Nat):Int)<=((l.length-pre sz i:Nat):Int):=ag;have DR:l.length-pre sz i-sz.getD i 0=l.length-pre sz (i+1)/\cap-pre sz i-sz.getD i 0=cap-pre sz (i+1):=by have:=EF (sz:=sz) (i:=i) ag;omega
   have asC:pre sz (i+1)<l.length->o'+sz.getD i 0=off+pre sz (i+1):=λh=>by have:=EF (sz:=sz) (i:=i) ag;have:=ho' ag;omega
   have hz:cap-pre sz i<=sz.getD i 0->l.length<=pre sz (i+1):=λh=>ag
   clear ho' hN hS hD1 aol hC;generalize pre sz i=p at*;generalize sz.getD i 0=q at*;generalize l.length-p=n1 at*;generalize cap-p=n2 at*;unfold rH at Tq;generalize ns.getD i []=nm at c1 Tq
   go_wp2_with(first|(go_at_call 69;(with_reducible refine k1.mono ?_);rintro r w2 ⟨v',rfl,ho,tX⟩;obtain⟨bq,cq,rfl⟩:=(qU.owned ho).len;obtain⟨hC2,⟨_,d1⟩,d2,⟨_,d3⟩,d4⟩:=Tq w2 _ tX ho;have d5:=(tX.cell (p:=⟨gs,os+i,none⟩) ayg).trans c2))
   have wI:Below g w ((w2.setCell ⟨g,i*2,none⟩ (.string ⟨nm.toArray⟩)).setCell ⟨g,i*2+1,none⟩ (.slice bq (sJ (Nz sz l i)).length cq)):=((hb.trans (tX.mono (jf hgs))).setCell (p:=⟨g,i*2,none⟩) (az _) _).setCell (p:=⟨g,i*2+1,none⟩) (az _) _;have xI:g<((w2.setCell ⟨g,i*2,none⟩ (.string ⟨nm.toArray⟩)).setCell ⟨g,i*2+1,none⟩ (.slice bq (sJ (Nz sz l i)).length cq)).heap.size:=by have:=tX.size;simp;omega
   generalize(w2.setCell ⟨g,i*2,none⟩ (.string ⟨nm.toArray⟩)).setCell ⟨g,i*2+1,none⟩ (.slice bq (sJ (Nz sz l i)).length cq)=w3 at*;refine⟨?_,gG⟩;by_cases he:n2=q
   .rw[ay he];exact⟨i+1,_,o',ag,ax,aI,λh=>by have:=hz ag;omega,wI,hC2,xI⟩
   .rw[au he];exact⟨i+1,_,o'+q,ag,ax,aI,asC,wI,hC2,xI⟩
  .obtain rfl:i=ns.length:=ag;have Hg:¬((ns.length:Int)<(ns.length:Int)):=ag;go_wp2;go_ret
   first|exact⟨hb,rfl,vd,hC⟩|exact⟨by rw[hg];exact hb,vd,by rw[hg];rfl,by rw[hg];exact hC⟩
theorem agY(ns:List (ak))(sz:aA)(vN vS:ai)(w:ah)(hN:qU w vN (xe ns))(hS:qU w vS (zV sz))(Me:ns.length<=sz.length)(hsz:∀i,i<sz.length->sz.getD i 0=0)(hn:ns.length<=1048576):
  Calls prog 39 #[vN,vS,.slice none 0 0] w λr w'=>Below w.heap.size w w'/\∃vd,r=.returned (.slice (some ⟨w.heap.size,0,none⟩) ns.length ns.length)/\CB ns sz [] w.heap.size ns.length vd w':=by
 obtain⟨pn,cn,rfl⟩:=hN.len;obtain⟨ps,cs,rfl⟩:=hS.len;rw[wL]at hN⊢;rw[FW]at hS⊢;have mk:=Sr ns.length hn w;have h0:=CB.start ns sz [] w;have b0:Below w.heap.size w (w.alloc (.cells (madeCells #[.string ⟨#[]⟩,.slice none 0 0] (ns.length*2)) 44)):=(aT _ _).alloc (az _) _;go_enter func39,ntmps39;go_wp2;generalize w.alloc (.cells (madeCells #[.string ⟨#[]⟩,.slice none 0 0] (ns.length*2)) 44)=w0 at*;generalize hg:w.heap.size=g at*
 go_loopw [2,8,9,15] (λv2 _ _ vi wr=>∃(i:Nat)(vd:Nat->ai),i<=ns.length/\vi=.int .i64 (i:Int)/\v2=.slice none 0 0/\Below g w wr/\CB ns sz [] g i vd wr/\g<wr.heap.size) (λ_ _ _ vi _=>ns.length-(intOf vi).toNat)
 case atStart=>exact⟨0,_,ag,rfl,rfl,b0,h0,by have:=h0.row.lt;omega⟩
 case round=>
  clear h0 b0;obtain⟨i,vd,hi,rfl,rfl,hb,hC,hgs⟩:=hrel;by_cases qK:i<ns.length
  .have alo:(i:Int)<(ns.length:Int):=ag;have aaG:(i:Int)<(sz.length:Int):=ag;obtain⟨gn,on,rfl,c1⟩:=hN.get (GV qK);obtain⟨gs,os,rfl,c2⟩:=hS.get (Uo (l:=sz) (j:=i) ag);have lt1:=rG c1;have lt2:=rG c2;rw[hsz i ag,show((0:Nat):Int)=0 from rfl]at c2;replace c1:=(hb.cell (p:=⟨gn,on+i,none⟩) (by rw[<-hg];exact lt1)).trans c1;replace c2:=(hb.cell (p:=⟨gs,os+i,none⟩) (by rw[<-hg];exact lt2)).trans c2;have ep:Nz sz [] i=[]:=by simp[Nz]
   have k1:=Zd [] (.slice none 0 0) wr ⟨none,0,rfl,az _,λj u hj=>oh⟩ ax;have Tq:=λw2 v' tX ho=>hC.more (w2:=w2) (v':=v') qK hgs tX ho
   rw[ep]at Tq;clear hN hS hC;unfold rH at Tq;generalize ns.getD i []=nm at c1 Tq
   go_wp2_with(first|(go_at_call 69;(with_reducible refine k1.mono ?_);rintro r w2 ⟨v',rfl,ho,tX⟩;obtain⟨bq,cq,rfl⟩:=(qU.owned ho).len;obtain⟨hC2,⟨_,d1⟩,d2,⟨_,d3⟩,d4⟩:=Tq w2 _ tX ho;have d5:=(tX.cell (p:=⟨gs,os+i,none⟩) ayg).trans c2))
   have wI:Below g w ((w2.setCell ⟨g,i*2,none⟩ (.string ⟨nm.toArray⟩)).setCell ⟨g,i*2+1,none⟩ (.slice bq (sJ []).length cq)):=((hb.trans (tX.mono (jf hgs))).setCell (p:=⟨g,i*2,none⟩) (az _) _).setCell (p:=⟨g,i*2+1,none⟩) (az _) _;have xI:g<((w2.setCell ⟨g,i*2,none⟩ (.string ⟨nm.toArray⟩)).setCell ⟨g,i*2+1,none⟩ (.slice bq (sJ []).length cq)).heap.size:=by have:=tX.size;simp;omega
   exact⟨⟨i+1,_,ag,ax,rfl,wI,hC2,xI⟩,gG⟩
  .obtain rfl:i=ns.length:=ag;have Hg:¬((ns.length:Int)<(ns.length:Int)):=ag;go_wp2;go_ret
   first|exact⟨hb,rfl,vd,hC⟩|exact⟨by rw[hg];exact hb,vd,by rw[hg];rfl,by rw[hg];exact hC⟩
end Go.Proofs.Y
namespace Go.Lf
open Go.Extern Go.Extern.Rtype
section
variable {P:aN}{α:Type}
theorem MR(s:String):Plain P (cutType s):=by
 unfold cutType
 (repeat'(first|with_reducible(first|exact qo _|exact qw _|exact sD|(refine qp ?_ (λ_=>?_)))|split))
theorem yC(s:String):Plain P (panicString s:Sem α):=by
 unfold panicString
 (repeat'(with_reducible first|exact CU _|exact sD|(refine qp ?_ (λ_=>?_))))
theorem Be(h:ai):Plain P (ofHandle h):=by
 unfold ofHandle
 (repeat'(first|with_reducible(first|exact qo _|exact qw _|exact sD|(refine qp ?_ (λ_=>?_)))|split))
theorem O8(t:aF):Plain P (handle t):=by
 unfold handle
 (repeat'(with_reducible first|exact qo _|exact sD|(refine qp ?_ (λ_=>?_))))
theorem Eb(s:String)(t:aF):Plain P (noPack s t):=by
 unfold noPack
 (repeat'(first|with_reducible exact qo _|((with_reducible refine rX ?_);exact trivial)|with_reducible(first|exact sD|(refine qp ?_ (λ_=>?_))|(refine qO ?_ ?_))))
theorem QO(s:String)(t:aF):Plain P (noPackHeld s t):=by
 unfold noPackHeld
 (repeat'(first|with_reducible exact qo _|((with_reducible refine rX ?_);exact trivial)|with_reducible(first|exact sD|(refine qp ?_ (λ_=>?_))|(refine qO ?_ ?_))))
theorem O9(s:String)(t:aF):Plain P (noPackNamed s t):=by
 unfold noPackNamed
 (repeat'(first|with_reducible exact qo _|((with_reducible refine rX ?_);exact trivial)|with_reducible(first|exact sD|(refine qp ?_ (λ_=>?_))|(refine qO ?_ ?_))))
theorem zu(s:String)(t:aF):Plain P (noPackMethods s t):=by
 unfold noPackMethods
 (repeat'(first|with_reducible exact qo _|((with_reducible refine rX ?_);exact trivial)|with_reducible(first|exact sD|(refine qp ?_ (λ_=>?_))|(refine qO ?_ ?_))))
theorem Xh(t:aF):Plain P (typeStr t):=by
 unfold typeStr
 (repeat'(first|with_reducible exact qo _|((with_reducible refine rX ?_);exact trivial)|with_reducible(first|exact rV _|(refine qp ?_ (λ_=>?_))|(refine qO ?_ ?_))))
theorem Su(t:aF):Plain P (spelt t):=by
 unfold spelt
 (repeat'(with_reducible first|exact O9 _ _|exact Xh _|(refine qp ?_ (λ_=>?_))))
theorem Ec(t:aF):Plain P (under t):=by
 unfold under
 (repeat'(first|with_reducible(first|exact qo _|exact rV _|(refine qp ?_ (λ_=>?_)))|split))
theorem Il(t:aF):Plain P (kind t):=by
 unfold kind
 (repeat'(first|with_reducible(first|exact qo _|exact qw _|exact Ec _|(refine qp ?_ (λ_=>?_)))|split))
theorem Xi(t:aF):Plain P (hasName t):=by
 unfold hasName
 (repeat'(first|with_reducible(first|exact qo _|exact rV _|(refine qp ?_ (λ_=>?_)))|split))
theorem Sv(t:aF):Plain P (elem? t):=by
 unfold elem?
 (repeat'(first|with_reducible(first|exact qo _|exact Ec _|(refine qp ?_ (λ_=>?_)))|split))
theorem BO(t u:aF):Plain P (implements t u):=by
 unfold implements
 (repeat'(first|with_reducible(first|exact qo _|exact zu _ _|exact Ec _|exact rV _|(refine qp ?_ (λ_=>?_)))|split))
theorem JQ(t u:aF):Plain P (directlyAssignable t u):=by
 unfold directlyAssignable
 (repeat'(first|with_reducible(first|exact qo _|exact Xi _|exact Ec _|(refine qp ?_ (λ_=>?_))|(refine qO ?_ ?_))|split))
theorem Io(t:aF):Plain P (ReflectliteType.toType t):=by
 unfold ReflectliteType.toType
 (repeat'(with_reducible first|exact qo _|exact MR _|exact O8 _|(refine qp ?_ (λ_=>?_))))
theorem Gn(v:ai):Plain P (ReflectliteType.ofRtype v):=by
 unfold ReflectliteType.ofRtype;cases v<;>first|exact qw _|skip
 rename_i a;rcases a with⟨_|⟨h,_|⟨b,l⟩⟩⟩
 case cons.nil=>exact qp (Be h) λ_=>qp (Eb _ _) λ_=>qo _
 all_goals exact qw _
theorem Z5(vals:aB):Plain P (ReflectliteType.typeOf vals):=by
 unfold ReflectliteType.typeOf;rcases vals with⟨_|⟨a,_|⟨b,l⟩⟩⟩
 case cons.nil=>cases a<;>first|exact qw _|exact qo _|exact Io _
 all_goals exact qw _
theorem MV{f:aF->Sem ai}(h:∀t,Plain P (f t))(vals:aB):Plain P (ReflectliteType.method f vals):=by
 unfold ReflectliteType.method;rcases vals with⟨_|⟨a,_|⟨b,l⟩⟩⟩
 case cons.nil=>exact qp (Gn a) λ_=>h _
 all_goals exact qw _
theorem abM(t:aF):Plain P (ReflectliteType.elem t):=by
 unfold ReflectliteType.elem
 (repeat'(first|with_reducible(first|exact Sv _|exact Io _|exact Su _|exact yC _|(refine qp ?_ (λ_=>?_)))|split))
theorem JR{s:String}{f:aF->aF->Sem Bool}(h:∀t u,Plain P (f t u))(vals:aB):Plain P (ReflectliteType.relation s f vals):=by
 unfold ReflectliteType.relation;rcases vals with⟨_|⟨a,_|⟨b,_|⟨c,l⟩⟩⟩⟩
 case cons.cons.nil=>cases b<;>first|exact qw _|exact yC _|exact qp (Gn _) λ_=>qp (Gn _) λ_=>qp (h _ _) λ_=>qo _
 all_goals exact qw _
theorem O_(t u:aF):Plain P (ReflectliteType.implements_ t u):=by
 unfold ReflectliteType.implements_
 (repeat'(with_reducible first|exact Il _|exact yC _|exact zu _ _|exact Eb _ _|exact BO _ _|(refine qp ?_ (λ_=>?_))|(refine qO ?_ ?_)))
theorem NQ(t u:aF):Plain P (ReflectliteType.assignableTo t u):=by
 unfold ReflectliteType.assignableTo
 (repeat'(with_reducible first|exact qo _|exact zu _ _|exact JQ _ _|exact BO _ _|(refine qp ?_ (λ_=>?_))|(refine qO ?_ ?_)))
theorem TJ{f:aF->Sem ai}(h:∀t,Plain P (f t))(vals:aB):Plain P (ReflectliteType.abiMethod f vals):=by
 unfold ReflectliteType.abiMethod;rcases vals with⟨_|⟨a,_|⟨b,l⟩⟩⟩
 case cons.nil=>exact qp (Be a) λ_=>qp (Eb _ _) λ_=>h _
 all_goals exact qw _
theorem YA(t:aF)(a:Addr)(n:Nat):Plain P (ReflectliteValue.mk t a n):=by
 unfold ReflectliteValue.mk
 (repeat'(with_reducible first|exact qo _|exact O8 _|exact Il _|(refine qp ?_ (λ_=>?_))))
theorem Pe(v:ai):Plain P (ReflectliteValue.unpack v):=by
 unfold ReflectliteValue.unpack
 (repeat'(first|with_reducible(first|exact qo _|exact qw _|exact YA _ _ _|exact Bf _ _|(refine qp ?_ (λ_=>?_)))|split))
theorem xx(s:String)(k:Nat):Plain P (ReflectliteValue.valueError s k:Sem α):=by
 unfold ReflectliteValue.valueError
 (repeat'(with_reducible first|exact CU _|exact MR _|exact Pg _|exact Bf _ _|(refine qp ?_ (λ_=>?_))))
theorem JS(v:ai):Plain P (ReflectliteValue.partsAny v):=by
 unfold ReflectliteValue.partsAny;cases v<;>first|exact qw _|skip
 rename_i a;rcases a with⟨_|⟨x,_|⟨y,_|⟨z,_|⟨u,l⟩⟩⟩⟩⟩
 case cons.cons.cons.nil=>
  cases z<;>first|exact qw _|skip
  rename_i k n;cases k<;>first|exact qw _|skip
  rcases n with(_|m)|m
  .exact qo _
  .cases y<;>first|exact qw _|skip
   rename_i q;cases q with
   |none=>exact qw _
   |some ad=>exact qp (Be x) λ_=>qo _
  .cases y<;>first|exact qw _|skip
   rename_i q;cases q with
   |none=>exact qw _
   |some ad=>exact qp (Be x) λ_=>qo _
 all_goals exact qw _
theorem JU(v:ai):Plain P (ReflectliteValue.parts v):=by
 unfold ReflectliteValue.parts
 (repeat'(first|with_reducible(first|exact qo _|exact JS _|exact Eb _ _|(refine qp ?_ (λ_=>?_)))|split))
theorem Gp{z:Sem ai}{f:aF->Addr->Nat->Nat->Sem ai}(hz:Plain P z)(h:∀t a n m,Plain P (f t a n m))(vals:aB):Plain P (ReflectliteValue.method z f vals):=by
 unfold ReflectliteValue.method;rcases vals with⟨_|⟨a,_|⟨b,l⟩⟩⟩
 case cons.nil=>
  refine qp (JU a) λr=>?_
  cases r with
  |none=>exact hz
  |some x=>exact h _ _ _ _
 all_goals exact qw _
theorem TM{z:Sem ai}{f:aF->Addr->Nat->Nat->Sem ai}(hz:Plain P z)(h:∀t a n m,Plain P (f t a n m))(vals:aB):Plain P (ReflectliteValue.methodAny z f vals):=by
 unfold ReflectliteValue.methodAny;rcases vals with⟨_|⟨a,_|⟨b,l⟩⟩⟩
 case cons.nil=>
  refine qp (JS a) λr=>?_
  cases r with
  |none=>exact hz
  |some x=>exact h _ _ _ _
 all_goals exact qw _
theorem abN(t:aF)(a:Addr)(n k:Nat):Plain P (ReflectliteValue.isNil t a n k):=by
 unfold ReflectliteValue.isNil
 (repeat'(first|with_reducible(first|exact qo _|exact xx _ _|exact wY _ _|(refine qp ?_ (λ_=>?_))|(refine qO ?_ ?_))|split))
theorem abO(t:aF)(a:Addr)(n k:Nat):Plain P (ReflectliteValue.elem t a n k):=by
 unfold ReflectliteValue.elem
 (repeat'(first|with_reducible(first|exact qo _|exact xx _ _|exact wY _ _|exact Sv _|exact Pe _|exact YA _ _ _|(refine qp ?_ (λ_=>?_))|(refine qO ?_ ?_))|split))
theorem adX(vals:aB):Plain P (ReflectliteValue.set vals):=by
 unfold ReflectliteValue.set;rcases vals with⟨_|⟨a,_|⟨b,_|⟨c,l⟩⟩⟩⟩
 case cons.cons.nil=>
  refine qp (JU a) λp=>qp (JU b) λq=>?_
  (repeat'(first|with_reducible exact qo _|((with_reducible refine rX ?_);exact trivial)|with_reducible(first|exact wY _ _|exact JQ _ _|exact EW _ _ _|exact BO _ _|exact Il _|exact Su _|exact yC _|(refine qp ?_ (λ_=>?_))|(refine qO ?_ ?_))|split))
 all_goals exact qw _
end
end Go.Lf
namespace Go.Proofs.Y
open Go.Proofs.Tryz
open Go.Lf Go.Extern
def ajW(f:aU):Z7:=if f==136 then[5,9,17,19,21,23,35,37,67,85].map λj=>(j,142,1)else[]
def ajX:List aU:=[10,28,15,21,22,27,65,46,44,45,43,18,32,33,34,20,56,57,58,59,77,139,138,37,40,100,102,76,64,73,121,122,123,129,130,131,132,133,134,135,136,142,137,140,141,143,144,145,146,147,148,149,150,151,152,153,154,155,156,157,158,159,178,180]
def amS:List aU:=[101,70,71,72,112,113,173,174,182,185,186,187,188]
attribute [local irreducible] Plain
theorem BP{P:aN}{f:aU}{fn:Func}(e:aB->Sem ai)(h1:P.funcs[f]?=some fn)(h2:(fn.name== "runtime.NumGoroutine")=false)(h3:fn.body=none)(h4:Extern.findNext fn=none)(h5:Extern.find fn=some e)(h6:∀xs,Plain P (e xs)):Ph P f:=
 ⟨fn,h1,h2,h3,h4,λe' he xs=>by rw[h5]at he;cases he;exact qI.of (h6 xs)⟩
theorem apE{P:aN}{f:aU}{fn:Func}(h1:P.funcs[f]?=some fn)(h2:(fn.name== "runtime.NumGoroutine")=false)(h3:fn.body=none)(h4:Extern.findNext fn=none)(h5:Extern.find fn=none):Ph P f:=
 ⟨fn,h1,h2,h3,h4,λe' he xs=>by rw[h5]at he;cases he⟩
theorem arD:∀f∈amS,Ph prog f:=by
 intro f hf;simp only[amS,dX,avU,or_false]at hf;rcases hf with rfl|rfl|rfl|rfl|rfl|rfl|rfl|rfl|rfl|rfl|rfl|rfl|rfl
 .exact BP ReflectliteType.typeOf func101 aj aj aj aj (Z5)
 .exact BP (λargs=>ReflectliteValue.unpack (args.getD 0 (.tuple #[]))) func70 aj aj aj aj (λ_=>Pe _)
 .exact BP (ReflectliteValue.methodAny (ReflectliteValue.valueError "reflectlite.Value.Type" 0) λt _ _ _=>ReflectliteType.toType t) func71 aj aj aj aj (TM (xx _ _) λ_ _ _ _=>Io _)
 .exact BP (ReflectliteValue.method (ReflectliteValue.valueError "reflectlite.Value.IsNil" 0) ReflectliteValue.isNil) func72 aj aj aj aj (Gp (xx _ _) abN)
 .exact BP (ReflectliteValue.method (ReflectliteValue.valueError "reflectlite.Value.Elem" 0) ReflectliteValue.elem) func112 aj aj aj aj (Gp (xx _ _) abO)
 .exact BP ReflectliteValue.set func113 aj aj aj aj (adX)
 .exact apE func173 aj aj aj aj
 .exact BP (ReflectliteType.abiMethod λt=>do pure (.int .u8 (<-Rtype.kind t))) func174 aj aj aj aj (TJ λ_=>qp (Il _) λ_=>qo _)
 .exact BP (ReflectliteValue.method (pure (.int .u8 0)) λ_ _ _ k=>pure (.int .u8 (Int.ofNat k))) func182 aj aj aj aj (Gp (qo _) λ_ _ _ _=>qo _)
 .exact BP (ReflectliteType.relation "AssignableTo" ReflectliteType.assignableTo) func185 aj aj aj aj (JR NQ)
 .exact BP (ReflectliteType.method λt=>do Rtype.noPackHeld "Comparable" t;pure (.bool (<-typeInfo t).comparable)) func186 aj aj aj aj (MV λ_=>qp (QO _ _) λ_=>qp (rV _) λ_=>qo _)
 .exact BP (ReflectliteType.method ReflectliteType.elem) func187 aj aj aj aj (MV abM)
 .exact BP (ReflectliteType.relation "Implements" ReflectliteType.implements_) func188 aj aj aj aj (JR O_)
end Go.Proofs.Y
namespace Go.Lf
open Go.Extern
attribute [local irreducible] Plain
theorem QP{P:aN}(ps rs:Array aF)(vals:aB):Plain P (BytealgMakeNoZero.makeNoZero ps rs vals):=by
 unfold BytealgMakeNoZero.makeNoZero;rcases vals with⟨_|⟨a,_|⟨b,l⟩⟩⟩
 case cons.nil=>
  cases a with
  |int k n=>
   cases k
   case i64=>
    cases h:rs[0]? with
    |none=>exact qw _
    |some t=>
     refine qp (qG _) λd=>?_
     cases d<;>(repeat'(first|with_reducible assumption|with_reducible exact qo _|with_reducible exact abP _|with_reducible exact qw _|((with_reducible refine rX ?_);exact trivial)|with_reducible exact CU _|with_reducible exact NR _|with_reducible exact Sz _ _|with_reducible exact Pj _|with_reducible exact vw _|with_reducible exact sD|with_reducible exact NS _|with_reducible exact LH trivial|with_reducible exact rD _|with_reducible exact Bh _ _|((with_reducible refine Ip ?_ ?_);(focus(exact NT (λ_ _ _=>rfl) (λ_ _=>rfl)));(intro _))|with_reducible(refine qp ?_ (λ_=>?_))|with_reducible(refine QQ ?_)|with_reducible(refine qO ?_ ?_)|split|(dsimp only)))
   all_goals(cases h:rs[0]?<;>exact qw _)
  |_=>cases h:rs[0]?<;>exact qw _
 all_goals(cases h:rs[0]?<;>exact qw _)
end Go.Lf
namespace Go.Proofs.Y
open Go.Proofs.Tryz
open Go.Lf Go.Extern
def ajY:List aU:=[35,36,63,39,60,61,62,103,104,124,125,105,106,66,68,69,12,13]
def zx:List aU:=[107]
def ajZ(f:aU):Bool:=ajX.contains f||aaU.contains f||ajY.contains f||amS.contains f||zx.contains f
noncomputable def abQ(f:aU):Bool:=match prog.funcs[f]? with
 |none=>false
 |some fn=>!(fn.name== "runtime.NumGoroutine")&&match fn.body with
  |none=>false
  |some c=>uD prog ajZ (ajW f) c&&(ajW f).all λx=>decide (arity prog f<=x.1)
theorem amT:(ajX++aaU++ajY).all abQ=true:=aj
theorem arE:Ph prog 107:=
 BP (BytealgMakeNoZero.makeNoZero Tryz.f107.params Tryz.f107.resultTypes) func107 aj aj aj aj (QP _ _)
theorem qP:xY prog ajZ:=by
 intro f hf
 have hf':(ajX++aaU++ajY).contains f=true\/amS.contains f=true\/zx.contains f=true:=by
  simp only[ajZ,l_]at hf;simp only[List.contains_eq_mem,lV,iP]at hf⊢;rcases hf with(((h|h)|h)|h)|h
  .exact .inl (.inl (.inl h))
  .exact .inl (.inl (.inr h))
  .exact .inl (.inr h)
  .exact ayp
  .exact .inr (.inr h)
 rcases hf' with hf|hf|hf
 .left
  have h:=jF.1 amT f p_;unfold abQ at h;split at h
  .cases h
  .rename_i fn Oi;rw[gW]at h;obtain⟨h1,h2⟩:=h;split at h2
   .cases h2
   .rename_i c hc;rw[gW]at h2;exact⟨fn,c,ajW f,Oi,iK,hc,h2.1,λx hx=>by simpa using jF.1 h2.2 x hx⟩
 .right
  exact arD f p_
 .right
  obtain rfl:f=107:=by simpa[zx]using hf
  exact arE
end Go.Proofs.Y
namespace Go.Lf
open Go.Conc
section
variable {P:aN}{F:aU->Bool}{X:Nat->Prop}{Y:Nat->aV}{D:Nat->ah->aH->Prop}{Stop:aG->ah->Prop}{f:aU}{cs:aP}{T:aB}{v:ah}
theorem Lc(hF:xY P F)(hD:uU X D){c:Code}(hc:Hz P F c=true){fn:Func}(hf:P.funcs[f]?=some fn){R:ai->ah->Prop}{c0:aJ}
  (h:∀τ d,c.wp P (bodyPost P fn λe v'=>∃y,e=.returned y/\R y v') ⟨T,[]⟩ {v with tape:=τ,drawn:=d})
  (hK:∀y v',R y v'->∀w',qQ X Y w' v'->r_ P D Stop (G (c0.finish y) cs) w'):uA P X Y D Stop f (c0::cs) [.code c] ⟨T,[]⟩ v:=by
 intro w hs;refine ara (f:=(base f).at ⟨T,[]⟩ [.code c]) (Q:=λfr v'=>∃y,R y v'/\fr.defers=[]/\fr.kind=.normal/\∃fn,P.funcs[fr.fn]?=some fn/\(results fn fr.tmps).run P v'=.ok y v') hF hD ⟨⟨fn,hf⟩,rfl,rfl,rfl,[],λx hx=>awq,GM.nil⟩ rfl (λτ d'=>?_) hs (λfz v' w' hT hzm hQ xU=>?_)
 .obtain⟨e,a',v',hq,ahU⟩:=h τ d' (base f) [] [f0];cases e with
  |normal=>
   obtain⟨hd,y,hr,z,hz,hR⟩:=hq;cases hz;obtain⟨n,hn⟩:Steps P (lone ((base f).at ⟨T,[]⟩ [.code c]) [f0] {v with tape:=τ,drawn:=d'}) (lone {(base f).at a' []with mode:=.returning} [f0] v'):=Steps.trans ahU (.one step_end);exact⟨n,_,v',hn,rfl,y,hR,hd,rfl,fn,hf,hr⟩
  |ret=>
   obtain⟨hd,y,hr,z,hz,hR⟩:=hq;cases hz;obtain⟨todo,uw⟩:=ahU;obtain⟨n,hn⟩:Steps P (lone ((base f).at ⟨T,[]⟩ [.code c]) [f0] {v with tape:=τ,drawn:=d'}) (lone {(base f).at a' todo with mode:=.returning} [f0] v'):=uw;exact⟨n,_,v',hn,rfl,y,hR,hd,rfl,fn,hf,hr⟩
  |panic chain=>
   obtain⟨_,y,hy,_⟩:=hq;cases hy
  |exit id=>exact hq.elim
  |goto l=>exact hq.elim
  |outgrown=>
   obtain⟨y,hy,_⟩:=hq;cases hy
 .obtain⟨y,hR,hd,hk,fn,hf,hr⟩:=hQ;refine .next rfl λd=>?_
  obtain⟨τ0,d0,Ou⟩:=xU
  have yY:xZ X Y (w'.at d) {v' with tape:=λp=>w'.tape (d+(p-v'.drawn))}:=qQ.re ⟨τ0,d0,Ou⟩ d v'.drawn _ λi q=>by exact azU
  obtain⟨_,_,ht3⟩:=wM (results fn fz.tmps) v' #[] y v' ((results fn fz.tmps).events P v' #[]) (wV fn fz.tmps) Ou.nv avx;have Hl:=ht3 (λp=>w'.tape (d+(p-v'.drawn))) (λp h1 h2=>absurd h2 ag);obtain⟨w3,h1,h2,h3,h4⟩:=vX (results fn fz.tmps) (w'.at d) _ #[] y _ _ (wV fn fz.tmps) yY Hl;refine⟨G (c0.finish y) cs,w3,seen P fz.fn ((results fn fz.tmps).events P v' #[]),?_,hD _ _ _ (fQ (yY.size.trans h2.size.symm)) (λe he=>(h4 e (mem_seen he)).resolve_left ax),hK y v' hR w3 ⟨_,_,h2⟩⟩;obtain⟨fnx,tmps,todo,defers,mode,kind,round⟩:=fz;dsimp only at hzm hd hk hf hr h1 h4;subst hzm hd hk;show stepG P true _ (w'.at d)=_;simp only[G,stepG,unwind,hf,h1,doReturn,GStep.after];rfl
end
end Go.Lf
namespace Go.Proofs.Y
open Go.Proofs.Tryz
open Go.RowKit Go.Deep Go.Lf Go.Conc Go.Hp
theorem tq{w w':ah}(h:sH w.heap.size w w'):Sub w w':=⟨h.sN,λ_ _ _ _ hb=>(h.blk (dh.1 hb).1).trans hb⟩
theorem Sub.trans{a b c:ah}(h:Sub a b)(h':Sub b c):Sub a c:=⟨bu h.1 h'.1,λx y t fr hx=>h'.2 x y t fr (h.2 x y t fr hx)⟩
structure Gl(a:Addr)(w:ah):Prop where
 tab:Du w
 pow:Pow w
 big:5<=w.heap.size
 early:xh w a
 aoq:Dw w
theorem Gl.sub{a:Addr}{w w':ah}(h:Gl a w)(hs:Sub w w'):Gl a w':=by
 refine⟨hs.tab h.tab,?_,bu h.big hs.1,hs.cell h.early,hs.cell h.aoq⟩;have hp:=h.pow;unfold Pow Lib.TabIs World.var? at hp⊢;cases hg:prog.globalNamed "internal/strconv.uint64pow10" with
 |none=>rw[hg]at hp;cases hp
 |some g=>
  rw[hg]at hp;simp only[gK]at hp⊢;split at hp
  .rename_i cs t fr hc;rw[hs.2 _ _ _ _ hc];exact hp
  .cases hp
section
variable {w:ah}

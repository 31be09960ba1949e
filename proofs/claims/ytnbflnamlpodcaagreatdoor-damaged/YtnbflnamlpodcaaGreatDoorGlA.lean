import Derived.Test.YtnbflnamlpodcaaGreatDoorShelfJ
set_option maxHeartbeats 4000000
set_option maxRecDepth 100000
namespace Go.Proofs.Y
open Go.Proofs.Tryz
open Go.RowKit Go.Deep Go.Lib
theorem join_none(ls:List (List UInt8)):Lib.join ls []=ls.flatten:=by
 unfold Lib.join
 induction ls with
 |nil=>rfl
 |cons x r ih=>
  cases r with
  |nil=>simp[List.intercalate]
  |cons y r=>
   simp only[List.intercalate,List.intersperse,jq,bg]at ih⊢;rw[ih]
theorem qR.fresh{B:Nat}{w:World}{v:Value}{l:List UInt8}(h:FreshBytes B w v l):qR w v (r_ l):=by
 obtain⟨g,cap,zs,rfl,_,h2,_,h4,h5,h6,h7,_⟩:=h;have el:(r_ l).length=l.length:=dL;refine⟨some ⟨g,0,none⟩,cap,by rw[el],by rw[el];exact h2,λj u hj=>⟨g,0,rfl,?_⟩⟩;have Pq:j<l.length:=by have:=(dS.1 hj).1;omega
 rw[aT,h7 j ae,<-hj,wR Pq]
 congr 2
 have hz:0<=zs.getD j 0/\zs.getD j 0<256:=by
  have:zs.getD j 0∈zs:=by rw[aO,a_ ae];exact List.getElem_mem _
  exact h5 _ this
 have e1:l.getD j 0=UInt8.ofNat (zs.getD j 0).toNat:=by
  have:l[j]?=(bytesOf (zs.take l.length))[j]?:=by rw[h6]
  simp only[bytesOf,bV,kQ,aj Pq]at this;rw[aO,aO,this,a_ ae];rfl
 rw[tJ,e1];generalize zs.getD j 0=z at hz;simp only[dW];omega
structure aoa(w:World)(C K L:Nat)(dN:Nat->Nat)(ls:List (List UInt8)):Prop where
 len:ls.length=K
 each:∀l∈ls,l.length=L
 at0:∀t,t<K->w.cell? ⟨C,t,none⟩=some (.slice (some ⟨dN t,0,none⟩) L L)
 byte:∀t l,ls[t]?=some l->∀m x,l[m]?=some x->w.cell? ⟨dN t,m,none⟩=some (.int .u8 (x.toNat:Int))
theorem ae5{L:Nat}:∀(ls:List (List UInt8)),(∀l∈ls,l.length=L)->Lib.lens ls=ls.length*L
 |[],_=>by simp[Lib.lens]
 |l::r,h=>by
  have:=ae5 r λx hx=>h x (kH _ hx)
  simp only[Lib.lens,fE,jk,bQ,fD]at this⊢;rw[this,h l List.mem_cons_self,iQ]
def NP(v:Value)(n:Nat):Prop:=v=.slice none 0 0/\n=0\/∃b off cap,v=.slice (some ⟨b,off,none⟩) n cap/\n<=cap
theorem NP.fresh{B:Nat}{w:World}{v:Value}{l:List UInt8}(h:FreshBytes B w v l):NP v l.length:=by obtain⟨g,cap,zs,rfl,_,h2,_⟩:=h;exact .inr ⟨g,0,cap,rfl,h2⟩
theorem afV{w:World}{C K L:Nat}{dN:Nat->Nat}{ls:List (List UInt8)}(h:aoa w C K L dN ls)(hK:0<K/\K<=128)(hL:L<=65536):
  Calls prog 66 #[.slice (some ⟨C,0,none⟩) K K,.slice none 0 0] w λr w'=>∃v,r=.returned v/\qR w' v (r_ ls.flatten)/\NP v ls.flatten.length/\Below w.heap.size w w':=by
 by_cases h2:2<=K
 .have hP:Lib.PartsAt w ⟨C,0,none⟩ ((List.range K).map λt=>.slice (some ⟨dN t,0,none⟩) L L) ls:=by
   refine⟨by simp[h.len],λi v hv=>?_,λi v l hv hl=>?_⟩
   .rw[bV]at hv;obtain⟨j,hj,rfl⟩:=bT.1 hv;have hi:=(dS.1 hj);obtain⟨h1,h3⟩:=hi;simp at h1 h3;subst h3;rw[Addr.add_mid,aT];exact h.at0 i h1
   .rw[bV]at hv;obtain⟨j,hj,rfl⟩:=bT.1 hv;obtain⟨h1,h3⟩:=(dS.1 hj);simp at h1 h3;subst h3;refine⟨some ⟨dN i,0,none⟩,L,by rw[h.each l (iR hl)],(λe=>by cases e),λa ha m x hx=>?_⟩;cases ha;rw[Addr.add_mid,aT];exact h.byte i l hl m x hx
  have hb:Lib.lens ls+([]:List UInt8).length*(K-1)<=140737488355328:=by rw[ae5 ls h.each,h.len];have:K*L<=128*65536:=jK hK.2 hL;simp;omega
  have k:=Any.bytes_Join_many Tryz.aep C 0 K K _ ls (.slice none 0 0) [] w h.len h2 hP (ak _) ⟨none,0,rfl,λ_=>rfl,(λa ha=>by cases ha)⟩ ae hb;refine k.mono ?_;rintro r w' ⟨v,rfl,hF,hB⟩;rw[join_none]at hF;exact⟨v,rfl,qR.fresh hF,NP.fresh hF,hB⟩
 .obtain rfl:K=1:=ae;obtain⟨l0,rfl⟩:∃l0,ls=[l0]:=List.length_eq_one_iff.1 h.len;have e0:=h.each l0 ai;have c0:=h.at0 0 ae;have hf:[l0].flatten=l0:=ai;rw[hf];rcases dK L with h0|h0
  .subst h0;obtain rfl:l0=[]:=kR e0;refine(Any.bytes_Join_one_empty Tryz.aep C 0 1 (some ⟨dN 0,0,none⟩) 0 (.slice none 0 0) w c0).mono ?_;rintro r w' ⟨rfl,rfl⟩;exact⟨_,rfl,⟨none,0,rfl,ak _,λj u hj=>mX⟩,.inl ⟨rfl,rfl⟩,aA _ _⟩
  .rw[<-e0]at c0;refine(Any.bytes_Join_one Tryz.aep C 0 1 ⟨dN 0,0,none⟩ l0.length l0 (.slice none 0 0) w c0 (λi x hx=>?_) ae ae).mono ?_
   .rw[Addr.add_mid,aT];exact h.byte 0 l0 rfl i x hx
   .rintro r w' ⟨v,rfl,hF,hB⟩;exact⟨v,rfl,qR.fresh hF,NP.fresh hF,hB⟩
end Go.Proofs.Y
namespace Go.Proofs.Y
open Go.Proofs.Tryz
open Go.RowKit Go.Deep
def pre(sz:List Nat)(i:Nat):Nat:=(sz.take i).sum
theorem IY{sz:List Nat}{i:Nat}(h:i<sz.length):pre sz (i+1)=pre sz i+sz.getD i 0:=by unfold pre;rw[List.take_add_one,iG,a_ h,aO,a_ h];simp
theorem ajq(sz:List Nat)(i:Nat):pre sz i<=sz.sum:=by unfold pre;have:=aP List.sum (nS i sz);rw[iG]at this;omega
def pcB(sz:List Nat)(l:List UInt8)(i:Nat):List UInt8:=(l.drop (pre sz i)).take (sz.getD i 0)
structure CB(ns:List (List UInt8))(sz:List Nat)(l:List UInt8)(g i:Nat)(vd:Nat->Value)(w:World):Prop where
 row:w.rowIs g 44 (ns.length*2) (λp=>if p/2<i then(if p%2=0 then ry (ns.getD (p/2) [])else vd (p/2))else(if p%2=0 then ry []else .slice none 0 0))
 dat:∀j,j<i->w.ownsRow (g+1) 5 1 (vd j) (pcB sz l j).length (r_ (pcB sz l j))
theorem CB.more{ns:List (List UInt8)}{sz:List Nat}{l:List UInt8}{g i:Nat}{vd:Nat->Value}{w w2:World}{v':Value}(h:CB ns sz l g i vd w)(hi:i<ns.length)(hg:g<w.heap.size)(hb:Below w.heap.size w w2)(ho:w2.ownsRow w.heap.size 5 1 v' (pcB sz l i).length (r_ (pcB sz l i))):
  CB ns sz l g (i+1) (λj=>if j=i then v' else vd j) ((w2.setCell ⟨g,i*2,none⟩ (ry (ns.getD i []))).setCell ⟨g,i*2+1,none⟩ v')/\(∃u,w2.cell? ⟨g,i*2,none⟩=some u)/\w2.frozen? ⟨g,i*2,none⟩=false/\(∃u,(w2.setCell ⟨g,i*2,none⟩ (ry (ns.getD i []))).cell? ⟨g,i*2+1,none⟩=some u)/\(w2.setCell ⟨g,i*2,none⟩ (ry (ns.getD i []))).frozen? ⟨g,i*2+1,none⟩=false:=by
 have r:=h.row.of_block (hb.block g hg);have r1:=r.set (i*2) (ry (ns.getD i []));have r2:=r1.set (i*2+1) v';refine⟨⟨r2.congr λp hp=>?_,λj hj=>?_⟩,⟨_,r.cell (i:=i*2) ae⟩,r.frozen _,⟨_,r1.cell (i:=i*2+1) ae⟩,r1.frozen _⟩
 .by_cases e1:p=i*2+1
  .subst e1;rw[aj rfl,aj ae,ah ae,aj ae]
  .rw[ah e1];by_cases e2:p=i*2
   .subst e2;rw[aj rfl,aj ae,aj ae,show i*2/2=i by omega]
   .rw[ah e2];by_cases e3:p/2<i
    .simp only[e3,show p/2<i+1 by omega,show¬p/2=i by omega,aF,aU]
    .simp only[e3,show¬p/2<i+1 by omega,aU]
 .have key:∀{v:Value}{m:Nat}{xs:List Value},w2.ownsRow (g+1) 5 1 v m xs->((w2.setCell ⟨g,i*2,none⟩ (ry (ns.getD i []))).setCell ⟨g,i*2+1,none⟩ v').ownsRow (g+1) 5 1 v m xs:=λo=>dF (dF o (a:=⟨g,i*2,none⟩) (dm g) _) (a:=⟨g,i*2+1,none⟩) (dm g) _
  by_cases e:j=i
  .subst e;rw[aj rfl];exact key (ho.mono ae)
  .rw[ah e];exact key (ada (h.dat j ae) hb (ak _))
theorem qR.owned{w:World}{B n:Nat}{v:Value}{xs:List Value}{t:TypeId}(h:w.ownsRow B t 1 v n xs):qR w v xs:=by
 obtain⟨hl,h⟩:=h;rw[iD]at hl;rcases h with⟨rfl,rfl⟩|⟨g,cap,cur,rfl,h2,h3,h4,h5,h6,h7⟩
 .exact⟨none,0,by rw[hl],ae,λj u hj=>by rw[kR hl]at hj;simp at hj⟩
 .refine⟨some ⟨g,0,none⟩,cap,by rw[hl],ae,λj u hj=>⟨g,0,rfl,?_⟩⟩;have Pq:=(dS.1 hj).1;rw[iD]at h7;rw[aT,<-hj,<-h7,kQ,aj ae];simp[World.cell?,h3]
theorem XD{w:World}{b off n cap:Nat}{l:List UInt8}(h:qR w (.slice (some ⟨b,off,none⟩) n cap) (r_ l)){s t:Nat}(uw:s+t<=l.length)(c:Nat)(hc:t<=c):qR w (.slice (some ⟨b,off+s,none⟩) t c) (r_ ((l.drop s).take t)):=by
 have el:((l.drop s).take t).length=t:=az;refine⟨some ⟨b,off+s,none⟩,c,by simp only[r_,iT,el],by simp only[r_,iT,el];exact hc,λj u hj=>⟨b,off+s,rfl,?_⟩⟩;have Pq:j<t:=by have:=(dS.1 hj).1;simp only[r_,iT,el]at this;exact this
 have e:(r_ l)[s+j]?=some u:=by rw[<-hj];simp only[r_,bV,kQ,aj Pq,auc]
 obtain⟨b',ahd,e',hc'⟩:=h.get e;cases e';rw[dw];exact hc'
theorem QY(n:Nat)(hn:n<=1048576)(w:World):(Instr.makeSlice 26 (.int .i64 (n:Int)) (.int .i64 (n:Int))).run prog w=.ok (.slice (some ⟨w.heap.size,0,none⟩) n n) (w.alloc (.cells (madeCells #[.string ⟨#[]⟩,.slice none 0 0] (n*2)) 44)):=by obtain⟨i0,Af,x_,w_,wH⟩:=bG Tryz.Ob;have:=jg (P:=prog) w 26 44 i0 _ underlying26 Af x_ .i64 .i64 n n ae ae fU ae;exact awK
theorem CB.start(ns:List (List UInt8))(sz:List Nat)(l:List UInt8)(w:World):CB ns sz l w.heap.size 0 (λ_=>undef) (w.alloc (.cells (madeCells #[.string ⟨#[]⟩,.slice none 0 0] (ns.length*2)) 44)):=by
 refine⟨?_,λj hj=>absurd hj ae⟩
 have:=World.rowIs_alloc w (madeCells #[.string ⟨#[]⟩,.slice none 0 0] (ns.length*2)) 44 (λp=>if p/2<0 then(if p%2=0 then ry (ns.getD (p/2) [])else undef)else(if p%2=0 then ry []else .slice none 0 0)) (λi hi=>by rw[gX]at hi;rw[ah ae];rcases avd i with e|e<;>simp[madeCells,hi,e,ry])
 rw[gX]at this;exact this
theorem agp(ns:List (List UInt8))(sz:List Nat)(l:List UInt8)(vN vS:Value)(b off cap:Nat)(w:World)(hN:qR w vN (wO ns))(hS:qR w vS (zF sz))(hD:qR w (.slice (some ⟨b,off,none⟩) l.length cap) (r_ l))(BD:l.length<=cap)(O0:ns.length<=sz.length)(hsum:sz.sum<=l.length)(hn:ns.length<=1048576)(hl:l.length<=1048576):
  Calls prog 39 #[vN,vS,.slice (some ⟨b,off,none⟩) l.length cap] w λr w'=>Below w.heap.size w w'/\∃vd,r=.returned (.slice (some ⟨w.heap.size,0,none⟩) ns.length ns.length)/\CB ns sz l w.heap.size ns.length vd w':=by
 obtain⟨pn,cn,rfl⟩:=hN.len;obtain⟨ps,cs,rfl⟩:=hS.len;rw[v_]at hN⊢;rw[E5]at hS⊢;have mk:=QY ns.length hn w;have h0:=CB.start ns sz l w;have b0:Below w.heap.size w (w.alloc (.cells (madeCells #[.string ⟨#[]⟩,.slice none 0 0] (ns.length*2)) 44)):=(aA _ _).alloc (ak _) _;go_enter func39,ntmps39;go_wp2;generalize w.alloc (.cells (madeCells #[.string ⟨#[]⟩,.slice none 0 0] (ns.length*2)) 44)=w0 at*;generalize hg:w.heap.size=g at*
 go_loopw [2,8,9,15] (λv2 _ _ vi wr=>∃(i:Nat)(vd:Nat->Value)(o':Nat),i<=ns.length/\vi=.int .i64 (i:Int)/\v2=.slice (some ⟨b,o',none⟩) (l.length-pre sz i) (cap-pre sz i)/\(pre sz i<l.length->o'=off+pre sz i)/\Below g w wr/\CB ns sz l g i vd wr/\g<wr.heap.size) (λ_ _ _ vi _=>ns.length-(intOf vi).toNat)
 case atStart=>exact⟨0,_,off,ae,rfl,by simp[pre],λ_=>by simp[pre],b0,h0,by have:=h0.row.lt;omega⟩
 case round=>
  clear h0 b0;obtain⟨i,vd,o',hi,rfl,rfl,ho',hb,hC,hgs⟩:=hrel;by_cases qE:i<ns.length
  .have akJ:(i:Int)<(ns.length:Int):=ae;have ZY:(i:Int)<(sz.length:Int):=ae;have EJ:pre sz i+sz.getD i 0<=pre sz (i+1):=dX (IY ae).symm;have CJ:=ajq sz (i+1);obtain⟨gn,on,rfl,c1⟩:=hN.get (Gf qE);obtain⟨gs,os,rfl,c2⟩:=hS.get (Tn (l:=sz) (j:=i) ae);have lt1:=rM c1;have lt2:=rM c2;replace c1:=(hb.cell (p:=⟨gn,on+i,none⟩) (by rw[<-hg];exact lt1)).trans c1;replace c2:=(hb.cell (p:=⟨gs,os+i,none⟩) (by rw[<-hg];exact lt2)).trans c2;have hD1:=hD.adw hb ae
   have anl:qR wr (.slice (some ⟨b,o',none⟩) (sz.getD i 0) (cap-pre sz i)) (r_ (pcB sz l i)):=by
    rcases dK (sz.getD i 0)with hq|hq
    .unfold pcB;rw[hq];exact⟨_,_,rfl,fC _,λj u hj=>mX⟩
    .rw[ho' ae];exact XD hD1 (s:=pre sz i) (t:=sz.getD i 0) ae (cap-pre sz i) ae
   have k1:=Yu (pcB sz l i) _ wr anl (by unfold pcB;simp;omega);have RH:=λw2 v' sZ ho=>hC.more (w2:=w2) (v':=v') qE hgs sZ ho
   have x9:((sz.getD i 0:Nat):Int)<=((cap-pre sz i:Nat):Int):=ae;have zD:((sz.getD i 0:Nat):Int)<=((l.length-pre sz i:Nat):Int):=ae;have Ez:l.length-pre sz i-sz.getD i 0=l.length-pre sz (i+1)/\cap-pre sz i-sz.getD i 0=cap-pre sz (i+1):=by have:=IY (sz:=sz) (i:=i) ae;omega
   have ary:pre sz (i+1)<l.length->o'+sz.getD i 0=off+pre sz (i+1):=λh=>by have:=IY (sz:=sz) (i:=i) ae;have:=ho' ae;omega
   have hz:cap-pre sz i<=sz.getD i 0->l.length<=pre sz (i+1):=λh=>ae
   clear ho' hN hS hD1 anl hC;generalize pre sz i=p at*;generalize sz.getD i 0=q at*;generalize l.length-p=n1 at*;generalize cap-p=n2 at*;unfold ry at RH;generalize ns.getD i []=nm at c1 RH
   go_wp2_with(first|(go_at_call 69;(with_reducible refine k1.mono ?_);rintro r w2 ⟨v',rfl,ho,sZ⟩;obtain⟨bq,cq,rfl⟩:=(qR.owned ho).len;obtain⟨hC2,⟨_,d1⟩,d2,⟨_,d3⟩,d4⟩:=RH w2 _ sZ ho;have d5:=(sZ.cell (p:=⟨gs,os+i,none⟩) awu).trans c2))
   have vK:Below g w ((w2.setCell ⟨g,i*2,none⟩ (.string ⟨nm.toArray⟩)).setCell ⟨g,i*2+1,none⟩ (.slice bq (r_ (pcB sz l i)).length cq)):=((hb.trans (sZ.mono (iE hgs))).setCell (p:=⟨g,i*2,none⟩) (ak _) _).setCell (p:=⟨g,i*2+1,none⟩) (ak _) _;have xu:g<((w2.setCell ⟨g,i*2,none⟩ (.string ⟨nm.toArray⟩)).setCell ⟨g,i*2+1,none⟩ (.slice bq (r_ (pcB sz l i)).length cq)).heap.size:=by have:=sZ.size;simp;omega
   generalize(w2.setCell ⟨g,i*2,none⟩ (.string ⟨nm.toArray⟩)).setCell ⟨g,i*2+1,none⟩ (.slice bq (r_ (pcB sz l i)).length cq)=w3 at*;refine⟨?_,fP⟩;by_cases he:n2=q
   .rw[aj he];exact⟨i+1,_,o',ae,ai,ax,λh=>by have:=hz ae;omega,vK,hC2,xu⟩
   .rw[ah he];exact⟨i+1,_,o'+q,ae,ai,ax,ary,vK,hC2,xu⟩
  .obtain rfl:i=ns.length:=ae;have GH:¬((ns.length:Int)<(ns.length:Int)):=ae;go_wp2;go_ret
   first|exact⟨hb,rfl,vd,hC⟩|exact⟨by rw[hg];exact hb,vd,by rw[hg];rfl,by rw[hg];exact hC⟩
theorem agq(ns:List (List UInt8))(sz:List Nat)(vN vS:Value)(w:World)(hN:qR w vN (wO ns))(hS:qR w vS (zF sz))(O0:ns.length<=sz.length)(hsz:∀i,i<sz.length->sz.getD i 0=0)(hn:ns.length<=1048576):
  Calls prog 39 #[vN,vS,.slice none 0 0] w λr w'=>Below w.heap.size w w'/\∃vd,r=.returned (.slice (some ⟨w.heap.size,0,none⟩) ns.length ns.length)/\CB ns sz [] w.heap.size ns.length vd w':=by
 obtain⟨pn,cn,rfl⟩:=hN.len;obtain⟨ps,cs,rfl⟩:=hS.len;rw[v_]at hN⊢;rw[E5]at hS⊢;have mk:=QY ns.length hn w;have h0:=CB.start ns sz [] w;have b0:Below w.heap.size w (w.alloc (.cells (madeCells #[.string ⟨#[]⟩,.slice none 0 0] (ns.length*2)) 44)):=(aA _ _).alloc (ak _) _;go_enter func39,ntmps39;go_wp2;generalize w.alloc (.cells (madeCells #[.string ⟨#[]⟩,.slice none 0 0] (ns.length*2)) 44)=w0 at*;generalize hg:w.heap.size=g at*
 go_loopw [2,8,9,15] (λv2 _ _ vi wr=>∃(i:Nat)(vd:Nat->Value),i<=ns.length/\vi=.int .i64 (i:Int)/\v2=.slice none 0 0/\Below g w wr/\CB ns sz [] g i vd wr/\g<wr.heap.size) (λ_ _ _ vi _=>ns.length-(intOf vi).toNat)
 case atStart=>exact⟨0,_,ae,rfl,rfl,b0,h0,by have:=h0.row.lt;omega⟩
 case round=>
  clear h0 b0;obtain⟨i,vd,hi,rfl,rfl,hb,hC,hgs⟩:=hrel;by_cases qE:i<ns.length
  .have akJ:(i:Int)<(ns.length:Int):=ae;have ZY:(i:Int)<(sz.length:Int):=ae;obtain⟨gn,on,rfl,c1⟩:=hN.get (Gf qE);obtain⟨gs,os,rfl,c2⟩:=hS.get (Tn (l:=sz) (j:=i) ae);have lt1:=rM c1;have lt2:=rM c2;rw[hsz i ae,show((0:Nat):Int)=0 from rfl]at c2;replace c1:=(hb.cell (p:=⟨gn,on+i,none⟩) (by rw[<-hg];exact lt1)).trans c1;replace c2:=(hb.cell (p:=⟨gs,os+i,none⟩) (by rw[<-hg];exact lt2)).trans c2;have ep:pcB sz [] i=[]:=by simp[pcB]
   have k1:=Yu [] (.slice none 0 0) wr ⟨none,0,rfl,ak _,λj u hj=>mX⟩ ai;have RH:=λw2 v' sZ ho=>hC.more (w2:=w2) (v':=v') qE hgs sZ ho
   rw[ep]at RH;clear hN hS hC;unfold ry at RH;generalize ns.getD i []=nm at c1 RH
   go_wp2_with(first|(go_at_call 69;(with_reducible refine k1.mono ?_);rintro r w2 ⟨v',rfl,ho,sZ⟩;obtain⟨bq,cq,rfl⟩:=(qR.owned ho).len;obtain⟨hC2,⟨_,d1⟩,d2,⟨_,d3⟩,d4⟩:=RH w2 _ sZ ho;have d5:=(sZ.cell (p:=⟨gs,os+i,none⟩) awu).trans c2))
   have vK:Below g w ((w2.setCell ⟨g,i*2,none⟩ (.string ⟨nm.toArray⟩)).setCell ⟨g,i*2+1,none⟩ (.slice bq (r_ []).length cq)):=((hb.trans (sZ.mono (iE hgs))).setCell (p:=⟨g,i*2,none⟩) (ak _) _).setCell (p:=⟨g,i*2+1,none⟩) (ak _) _;have xu:g<((w2.setCell ⟨g,i*2,none⟩ (.string ⟨nm.toArray⟩)).setCell ⟨g,i*2+1,none⟩ (.slice bq (r_ []).length cq)).heap.size:=by have:=sZ.size;simp;omega
   exact⟨⟨i+1,_,ae,ai,rfl,vK,hC2,xu⟩,fP⟩
  .obtain rfl:i=ns.length:=ae;have GH:¬((ns.length:Int)<(ns.length:Int)):=ae;go_wp2;go_ret
   first|exact⟨hb,rfl,vd,hC⟩|exact⟨by rw[hg];exact hb,vd,by rw[hg];rfl,by rw[hg];exact hC⟩
end Go.Proofs.Y
namespace Go.Lf
open Go.Extern Go.Extern.Rtype
section
variable {P:Program}{α:Type}
theorem LH(s:String):Plain P (cutType s):=by
 unfold cutType
 (repeat'(first|with_reducible(first|exact qg _|exact qj _|exact rP|(refine qh ?_ (λ_=>?_)))|split))
theorem xZ(s:String):Plain P (panicString s:Sem α):=by
 unfold panicString
 (repeat'(with_reducible first|exact BJ _|exact rP|(refine qh ?_ (λ_=>?_))))
theorem Aw(h:Value):Plain P (ofHandle h):=by
 unfold ofHandle
 (repeat'(first|with_reducible(first|exact qg _|exact qj _|exact rP|(refine qh ?_ (λ_=>?_)))|split))
theorem Oq(t:TypeId):Plain P (handle t):=by
 unfold handle
 (repeat'(with_reducible first|exact qg _|exact rP|(refine qh ?_ (λ_=>?_))))
theorem DF(s:String)(t:TypeId):Plain P (noPack s t):=by
 unfold noPack
 (repeat'(first|with_reducible exact qg _|((with_reducible refine rF ?_);exact trivial)|with_reducible(first|exact rP|(refine qh ?_ (λ_=>?_))|(refine qI ?_ ?_))))
theorem P_(s:String)(t:TypeId):Plain P (noPackHeld s t):=by
 unfold noPackHeld
 (repeat'(first|with_reducible exact qg _|((with_reducible refine rF ?_);exact trivial)|with_reducible(first|exact rP|(refine qh ?_ (λ_=>?_))|(refine qI ?_ ?_))))
theorem Ot(s:String)(t:TypeId):Plain P (noPackNamed s t):=by
 unfold noPackNamed
 (repeat'(first|with_reducible exact qg _|((with_reducible refine rF ?_);exact trivial)|with_reducible(first|exact rP|(refine qh ?_ (λ_=>?_))|(refine qI ?_ ?_))))
theorem yU(s:String)(t:TypeId):Plain P (noPackMethods s t):=by
 unfold noPackMethods
 (repeat'(first|with_reducible exact qg _|((with_reducible refine rF ?_);exact trivial)|with_reducible(first|exact rP|(refine qh ?_ (λ_=>?_))|(refine qI ?_ ?_))))
theorem Wq(t:TypeId):Plain P (typeStr t):=by
 unfold typeStr
 (repeat'(first|with_reducible exact qg _|((with_reducible refine rF ?_);exact trivial)|with_reducible(first|exact rE _|(refine qh ?_ (λ_=>?_))|(refine qI ?_ ?_))))
theorem QZ(t:TypeId):Plain P (spelt t):=by
 unfold spelt
 (repeat'(with_reducible first|exact Ot _ _|exact Wq _|(refine qh ?_ (λ_=>?_))))
theorem DJ(t:TypeId):Plain P (under t):=by
 unfold under
 (repeat'(first|with_reducible(first|exact qg _|exact rE _|(refine qh ?_ (λ_=>?_)))|split))
theorem Hq(t:TypeId):Plain P (kind t):=by
 unfold kind
 (repeat'(first|with_reducible(first|exact qg _|exact qj _|exact DJ _|(refine qh ?_ (λ_=>?_)))|split))
theorem Ws(t:TypeId):Plain P (hasName t):=by
 unfold hasName
 (repeat'(first|with_reducible(first|exact qg _|exact rE _|(refine qh ?_ (λ_=>?_)))|split))
theorem Q3(t:TypeId):Plain P (elem? t):=by
 unfold elem?
 (repeat'(first|with_reducible(first|exact qg _|exact DJ _|(refine qh ?_ (λ_=>?_)))|split))
theorem Bj(t u:TypeId):Plain P (implements t u):=by
 unfold implements
 (repeat'(first|with_reducible(first|exact qg _|exact yU _ _|exact DJ _|exact rE _|(refine qh ?_ (λ_=>?_)))|split))
theorem Jt(t u:TypeId):Plain P (directlyAssignable t u):=by
 unfold directlyAssignable
 (repeat'(first|with_reducible(first|exact qg _|exact Ws _|exact DJ _|(refine qh ?_ (λ_=>?_))|(refine qI ?_ ?_))|split))
theorem Ht(t:TypeId):Plain P (ReflectliteType.toType t):=by
 unfold ReflectliteType.toType
 (repeat'(with_reducible first|exact qg _|exact LH _|exact Oq _|(refine qh ?_ (λ_=>?_))))
theorem FK(v:Value):Plain P (ReflectliteType.ofRtype v):=by
 unfold ReflectliteType.ofRtype;cases v<;>first|exact qj _|skip
 rename_i a;rcases a with⟨_|⟨h,_|⟨b,l⟩⟩⟩
 case cons.nil=>exact qh (Aw h) λ_=>qh (DF _ _) λ_=>qg _
 all_goals exact qj _
theorem Zh(vals:Array Value):Plain P (ReflectliteType.typeOf vals):=by
 unfold ReflectliteType.typeOf;rcases vals with⟨_|⟨a,_|⟨b,l⟩⟩⟩
 case cons.nil=>cases a<;>first|exact qj _|exact qg _|exact Ht _
 all_goals exact qj _
theorem LJ{f:TypeId->Sem Value}(h:∀t,Plain P (f t))(vals:Array Value):Plain P (ReflectliteType.method f vals):=by
 unfold ReflectliteType.method;rcases vals with⟨_|⟨a,_|⟨b,l⟩⟩⟩
 case cons.nil=>exact qh (FK a) λ_=>h _
 all_goals exact qj _
theorem abd(t:TypeId):Plain P (ReflectliteType.elem t):=by
 unfold ReflectliteType.elem
 (repeat'(first|with_reducible(first|exact Q3 _|exact Ht _|exact QZ _|exact xZ _|(refine qh ?_ (λ_=>?_)))|split))
theorem Ju{s:String}{f:TypeId->TypeId->Sem Bool}(h:∀t u,Plain P (f t u))(vals:Array Value):Plain P (ReflectliteType.relation s f vals):=by
 unfold ReflectliteType.relation;rcases vals with⟨_|⟨a,_|⟨b,_|⟨c,l⟩⟩⟩⟩
 case cons.cons.nil=>cases b<;>first|exact qj _|exact xZ _|exact qh (FK _) λ_=>qh (FK _) λ_=>qh (h _ _) λ_=>qg _
 all_goals exact qj _
theorem Ou(t u:TypeId):Plain P (ReflectliteType.implements_ t u):=by
 unfold ReflectliteType.implements_
 (repeat'(with_reducible first|exact Hq _|exact xZ _|exact yU _ _|exact DF _ _|exact Bj _ _|(refine qh ?_ (λ_=>?_))|(refine qI ?_ ?_)))
theorem MO(t u:TypeId):Plain P (ReflectliteType.assignableTo t u):=by
 unfold ReflectliteType.assignableTo
 (repeat'(with_reducible first|exact qg _|exact yU _ _|exact Jt _ _|exact Bj _ _|(refine qh ?_ (λ_=>?_))|(refine qI ?_ ?_)))
theorem Sl{f:TypeId->Sem Value}(h:∀t,Plain P (f t))(vals:Array Value):Plain P (ReflectliteType.abiMethod f vals):=by
 unfold ReflectliteType.abiMethod;rcases vals with⟨_|⟨a,_|⟨b,l⟩⟩⟩
 case cons.nil=>exact qh (Aw a) λ_=>qh (DF _ _) λ_=>h _
 all_goals exact qj _
theorem XU(t:TypeId)(a:Addr)(n:Nat):Plain P (ReflectliteValue.mk t a n):=by
 unfold ReflectliteValue.mk
 (repeat'(with_reducible first|exact qg _|exact Oq _|exact Hq _|(refine qh ?_ (λ_=>?_))))
theorem Ov(v:Value):Plain P (ReflectliteValue.unpack v):=by
 unfold ReflectliteValue.unpack
 (repeat'(first|with_reducible(first|exact qg _|exact qj _|exact XU _ _ _|exact Az _ _|(refine qh ?_ (λ_=>?_)))|split))
theorem wX(s:String)(k:Nat):Plain P (ReflectliteValue.valueError s k:Sem α):=by
 unfold ReflectliteValue.valueError
 (repeat'(with_reducible first|exact BJ _|exact LH _|exact Ox _|exact Az _ _|(refine qh ?_ (λ_=>?_))))
theorem Jv(v:Value):Plain P (ReflectliteValue.partsAny v):=by
 unfold ReflectliteValue.partsAny;cases v<;>first|exact qj _|skip
 rename_i a;rcases a with⟨_|⟨x,_|⟨y,_|⟨z,_|⟨u,l⟩⟩⟩⟩⟩
 case cons.cons.cons.nil=>
  cases z<;>first|exact qj _|skip
  rename_i k n;cases k<;>first|exact qj _|skip
  rcases n with(_|m)|m
  .exact qg _
  .cases y<;>first|exact qj _|skip
   rename_i q;cases q with
   |none=>exact qj _
   |some ad=>exact qh (Aw x) λ_=>qg _
  .cases y<;>first|exact qj _|skip
   rename_i q;cases q with
   |none=>exact qj _
   |some ad=>exact qh (Aw x) λ_=>qg _
 all_goals exact qj _
theorem Jw(v:Value):Plain P (ReflectliteValue.parts v):=by
 unfold ReflectliteValue.parts
 (repeat'(first|with_reducible(first|exact qg _|exact Jv _|exact DF _ _|(refine qh ?_ (λ_=>?_)))|split))
theorem FM{z:Sem Value}{f:TypeId->Addr->Nat->Nat->Sem Value}(hz:Plain P z)(h:∀t a n m,Plain P (f t a n m))(vals:Array Value):Plain P (ReflectliteValue.method z f vals):=by
 unfold ReflectliteValue.method;rcases vals with⟨_|⟨a,_|⟨b,l⟩⟩⟩
 case cons.nil=>
  refine qh (Jw a) λr=>?_
  cases r with
  |none=>exact hz
  |some x=>exact h _ _ _ _
 all_goals exact qj _
theorem Sm{z:Sem Value}{f:TypeId->Addr->Nat->Nat->Sem Value}(hz:Plain P z)(h:∀t a n m,Plain P (f t a n m))(vals:Array Value):Plain P (ReflectliteValue.methodAny z f vals):=by
 unfold ReflectliteValue.methodAny;rcases vals with⟨_|⟨a,_|⟨b,l⟩⟩⟩
 case cons.nil=>
  refine qh (Jv a) λr=>?_
  cases r with
  |none=>exact hz
  |some x=>exact h _ _ _ _
 all_goals exact qj _
theorem abe(t:TypeId)(a:Addr)(n k:Nat):Plain P (ReflectliteValue.isNil t a n k):=by
 unfold ReflectliteValue.isNil
 (repeat'(first|with_reducible(first|exact qg _|exact wX _ _|exact wK _ _|(refine qh ?_ (λ_=>?_))|(refine qI ?_ ?_))|split))
theorem abf(t:TypeId)(a:Addr)(n k:Nat):Plain P (ReflectliteValue.elem t a n k):=by
 unfold ReflectliteValue.elem
 (repeat'(first|with_reducible(first|exact qg _|exact wX _ _|exact wK _ _|exact Q3 _|exact Ov _|exact XU _ _ _|(refine qh ?_ (λ_=>?_))|(refine qI ?_ ?_))|split))
theorem adx(vals:Array Value):Plain P (ReflectliteValue.set vals):=by
 unfold ReflectliteValue.set;rcases vals with⟨_|⟨a,_|⟨b,_|⟨c,l⟩⟩⟩⟩
 case cons.cons.nil=>
  refine qh (Jw a) λp=>qh (Jw b) λq=>?_
  (repeat'(first|with_reducible exact qg _|((with_reducible refine rF ?_);exact trivial)|with_reducible(first|exact wK _ _|exact Jt _ _|exact Ep _ _ _|exact Bj _ _|exact Hq _|exact QZ _|exact xZ _|(refine qh ?_ (λ_=>?_))|(refine qI ?_ ?_))|split))
 all_goals exact qj _
end
end Go.Lf
namespace Go.Proofs.Y
open Go.Proofs.Tryz
open Go.Lf Go.Extern
def ajr(f:FuncId):Zi:=if f==136 then[5,9,17,19,21,23,35,37,67,85].map λj=>(j,142,1)else[]
def ajs:List FuncId:=[10,28,15,21,22,27,65,46,44,45,43,18,32,33,34,20,56,57,58,59,77,139,138,37,40,100,102,76,64,73,121,122,123,129,130,131,132,133,134,135,136,142,137,140,141,143,144,145,146,147,148,149,150,151,152,153,154,155,156,157,158,159,178,180]
def amd:List FuncId:=[101,70,71,72,112,113,173,174,182,185,186,187,188]
attribute [local irreducible] Plain
theorem Bl{P:Program}{f:FuncId}{fn:Func}(e:Array Value->Sem Value)(h1:P.funcs[f]?=some fn)(h2:(fn.name== "runtime.NumGoroutine")=false)(h3:fn.body=none)(h4:Extern.findNext fn=none)(h5:Extern.find fn=some e)(h6:∀xs,Plain P (e xs)):Oy P f:=
 ⟨fn,h1,h2,h3,h4,λe' he xs=>by rw[h5]at he;cases he;exact qA.of (h6 xs)⟩
theorem aoO{P:Program}{f:FuncId}{fn:Func}(h1:P.funcs[f]?=some fn)(h2:(fn.name== "runtime.NumGoroutine")=false)(h3:fn.body=none)(h4:Extern.findNext fn=none)(h5:Extern.find fn=none):Oy P f:=
 ⟨fn,h1,h2,h3,h4,λe' he xs=>by rw[h5]at he;cases he⟩
theorem aqB:∀f∈amd,Oy prog f:=by
 intro f hf;simp only[amd,dA,aua,or_false]at hf;rcases hf with rfl|rfl|rfl|rfl|rfl|rfl|rfl|rfl|rfl|rfl|rfl|rfl|rfl
 .exact Bl ReflectliteType.typeOf func101 ag ag ag ag (Zh)
 .exact Bl (λargs=>ReflectliteValue.unpack (args.getD 0 (.tuple #[]))) func70 ag ag ag ag (λ_=>Ov _)
 .exact Bl (ReflectliteValue.methodAny (ReflectliteValue.valueError "reflectlite.Value.Type" 0) λt _ _ _=>ReflectliteType.toType t) func71 ag ag ag ag (Sm (wX _ _) λ_ _ _ _=>Ht _)
 .exact Bl (ReflectliteValue.method (ReflectliteValue.valueError "reflectlite.Value.IsNil" 0) ReflectliteValue.isNil) func72 ag ag ag ag (FM (wX _ _) abe)
 .exact Bl (ReflectliteValue.method (ReflectliteValue.valueError "reflectlite.Value.Elem" 0) ReflectliteValue.elem) func112 ag ag ag ag (FM (wX _ _) abf)
 .exact Bl ReflectliteValue.set func113 ag ag ag ag (adx)
 .exact aoO func173 ag ag ag ag
 .exact Bl (ReflectliteType.abiMethod λt=>do pure (.int .u8 (<-Rtype.kind t))) func174 ag ag ag ag (Sl λ_=>qh (Hq _) λ_=>qg _)
 .exact Bl (ReflectliteValue.method (pure (.int .u8 0)) λ_ _ _ k=>pure (.int .u8 (Int.ofNat k))) func182 ag ag ag ag (FM (qg _) λ_ _ _ _=>qg _)
 .exact Bl (ReflectliteType.relation "AssignableTo" ReflectliteType.assignableTo) func185 ag ag ag ag (Ju MO)
 .exact Bl (ReflectliteType.method λt=>do Rtype.noPackHeld "Comparable" t;pure (.bool (<-typeInfo t).comparable)) func186 ag ag ag ag (LJ λ_=>qh (P_ _ _) λ_=>qh (rE _) λ_=>qg _)
 .exact Bl (ReflectliteType.method ReflectliteType.elem) func187 ag ag ag ag (LJ abd)
 .exact Bl (ReflectliteType.relation "Implements" ReflectliteType.implements_) func188 ag ag ag ag (Ju Ou)
end Go.Proofs.Y
namespace Go.Lf
open Go.Extern
attribute [local irreducible] Plain
theorem Qa{P:Program}(ps rs:Array TypeId)(vals:Array Value):Plain P (BytealgMakeNoZero.makeNoZero ps rs vals):=by
 unfold BytealgMakeNoZero.makeNoZero;rcases vals with⟨_|⟨a,_|⟨b,l⟩⟩⟩
 case cons.nil=>
  cases a with
  |int k n=>
   cases k
   case i64=>
    cases h:rs[0]? with
    |none=>exact qj _
    |some t=>
     refine qh (qp _) λd=>?_
     cases d<;>(repeat'(first|with_reducible assumption|with_reducible exact qg _|with_reducible exact abg _|with_reducible exact qj _|((with_reducible refine rF ?_);exact trivial)|with_reducible exact BJ _|with_reducible exact MP _|with_reducible exact Q4 _ _|with_reducible exact Oz _|with_reducible exact uS _|with_reducible exact rP|with_reducible exact MQ _|with_reducible exact Ku trivial|with_reducible exact qX _|with_reducible exact AA _ _|((with_reducible refine Hu ?_ ?_);(focus(exact MR (λ_ _ _=>rfl) (λ_ _=>rfl)));(intro _))|with_reducible(refine qh ?_ (λ_=>?_))|with_reducible(refine Qb ?_)|with_reducible(refine qI ?_ ?_)|split|(dsimp only)))
   all_goals(cases h:rs[0]?<;>exact qj _)
  |_=>cases h:rs[0]?<;>exact qj _
 all_goals(cases h:rs[0]?<;>exact qj _)
end Go.Lf
namespace Go.Proofs.Y
open Go.Proofs.Tryz
open Go.Lf Go.Extern
def ajt:List FuncId:=[35,36,63,39,60,61,62,103,104,124,125,105,106,66,68,69,12,13]
def yV:List FuncId:=[107]
def aju(f:FuncId):Bool:=ajs.contains f||aaL.contains f||ajt.contains f||amd.contains f||yV.contains f
noncomputable def abh(f:FuncId):Bool:=match prog.funcs[f]? with
 |none=>false
 |some fn=>!(fn.name== "runtime.NumGoroutine")&&match fn.body with
  |none=>false
  |some c=>uq prog aju (ajr f) c&&(ajr f).all λx=>decide (arity prog f<=x.1)
theorem ame:(ajs++aaL++ajt).all abh=true:=ag
theorem aqC:Oy prog 107:=
 Bl (BytealgMakeNoZero.makeNoZero Tryz.f107.params Tryz.f107.resultTypes) func107 ag ag ag ag (Qa _ _)
theorem qZ:xB prog aju:=by
 intro f hf
 have hf':(ajs++aaL++ajt).contains f=true\/amd.contains f=true\/yV.contains f=true:=by
  simp only[aju,kU]at hf;simp only[List.contains_eq_mem,kJ,gY]at hf⊢;rcases hf with(((h|h)|h)|h)|h
  .exact .inl (.inl (.inl h))
  .exact .inl (.inl (.inr h))
  .exact .inl (.inr h)
  .exact awF
  .exact .inr (.inr h)
 rcases hf' with hf|hf|hf
 .left
  have h:=iZ.1 ame f oI;unfold abh at h;split at h
  .cases h
  .rename_i fn Nr;rw[fG]at h;obtain⟨h1,h2⟩:=h;split at h2
   .cases h2
   .rename_i c hc;rw[fG]at h2;exact⟨fn,c,ajr f,Nr,gQ,hc,h2.1,λx hx=>by simpa using iZ.1 h2.2 x hx⟩
 .right
  exact aqB f oI
 .right
  obtain rfl:f=107:=by simpa[yV]using hf
  exact aqC
end Go.Proofs.Y
namespace Go.Lf
open Go.Conc
section
variable {P:Program}{F:FuncId->Bool}{X:Nat->Prop}{Y:Nat->Option Obj}{D:Nat->World->Array Event->Prop}{Stop:Goroutine->World->Prop}{f:FuncId}{cs:List Frame}{T:Array Value}{v:World}
theorem JX(hF:xB P F)(hD:vw X D){c:Code}(hc:GR P F c=true){fn:Func}(hf:P.funcs[f]?=some fn){R:Value->World->Prop}{c0:Frame}
  (h:∀τ d,c.wp P (bodyPost P fn λe v'=>∃y,e=.returned y/\R y v') ⟨T,[]⟩ {v with tape:=τ,drawn:=d})
  (hK:∀y v',R y v'->∀w',qL X Y w' v'->rV P D Stop (G (c0.finish y) cs) w'):uh P X Y D Stop f (c0::cs) [.code c] ⟨T,[]⟩ v:=by
 intro w hs;refine apU (f:=(base f).at ⟨T,[]⟩ [.code c]) (Q:=λfr v'=>∃y,R y v'/\fr.defers=[]/\fr.kind=.normal/\∃fn,P.funcs[fr.fn]?=some fn/\(results fn fr.tmps).run P v'=.ok y v') hF hD ⟨⟨fn,hf⟩,rfl,rfl,rfl,[],λx hx=>auG,F8.nil⟩ rfl (λτ d'=>?_) hs (λfz v' w' hT hzm hQ xn=>?_)
 .obtain⟨e,a',v',hq,ahg⟩:=h τ d' (base f) [] [f0];cases e with
  |normal=>
   obtain⟨hd,y,hr,z,hz,hR⟩:=hq;cases hz;obtain⟨n,hn⟩:Steps P (lone ((base f).at ⟨T,[]⟩ [.code c]) [f0] {v with tape:=τ,drawn:=d'}) (lone {(base f).at a' []with mode:=.returning} [f0] v'):=Steps.trans ahg (.one step_end);exact⟨n,_,v',hn,rfl,y,hR,hd,rfl,fn,hf,hr⟩
  |ret=>
   obtain⟨hd,y,hr,z,hz,hR⟩:=hq;cases hz;obtain⟨todo,uw⟩:=ahg;obtain⟨n,hn⟩:Steps P (lone ((base f).at ⟨T,[]⟩ [.code c]) [f0] {v with tape:=τ,drawn:=d'}) (lone {(base f).at a' todo with mode:=.returning} [f0] v'):=uw;exact⟨n,_,v',hn,rfl,y,hR,hd,rfl,fn,hf,hr⟩
  |panic chain=>
   obtain⟨_,y,hy,_⟩:=hq;cases hy
  |exit id=>exact hq.elim
  |goto l=>exact hq.elim
  |outgrown=>
   obtain⟨y,hy,_⟩:=hq;cases hy
 .obtain⟨y,hR,hd,hk,fn,hf,hr⟩:=hQ;refine .next rfl λd=>?_
  obtain⟨τ0,d0,NC⟩:=xn
  have yJ:xE X Y (w'.at d) {v' with tape:=λp=>w'.tape (d+(p-v'.drawn))}:=qL.re ⟨τ0,d0,NC⟩ d v'.drawn _ λi q=>by exact axN
  obtain⟨_,_,ht3⟩:=vZ (results fn fz.tmps) v' #[] y v' ((results fn fz.tmps).events P v' #[]) (wI fn fz.tmps) NC.nv pO;have Gy:=ht3 (λp=>w'.tape (d+(p-v'.drawn))) (λp h1 h2=>absurd h2 ae);obtain⟨w3,h1,h2,h3,h4⟩:=vJ (results fn fz.tmps) (w'.at d) _ #[] y _ _ (wI fn fz.tmps) yJ Gy;refine⟨G (c0.finish y) cs,w3,seen P fz.fn ((results fn fz.tmps).events P v' #[]),?_,hD _ _ _ (dX (yJ.size.trans h2.size.symm)) (λe he=>(h4 e (mem_seen he)).resolve_left ai),hK y v' hR w3 ⟨_,_,h2⟩⟩;obtain⟨fnx,tmps,todo,defers,mode,kind,round⟩:=fz;dsimp only at hzm hd hk hf hr h1 h4;subst hzm hd hk;show stepG P true _ (w'.at d)=_;simp only[G,stepG,unwind,hf,h1,doReturn,GStep.after];rfl
end
end Go.Lf
namespace Go.Proofs.Y
open Go.Proofs.Tryz
open Go.RowKit Go.Deep Go.Lf Go.Conc Go.Hp
theorem uo{w w':World}(h:sK w.heap.size w w'):Sub w w':=⟨h.sH,λ_ _ _ _ hb=>(h.blk (bf.1 hb).1).trans hb⟩
theorem Sub.trans{a b c:World}(h:Sub a b)(h':Sub b c):Sub a c:=⟨aJ h.1 h'.1,λx y t fr hx=>h'.2 x y t fr (h.2 x y t fr hx)⟩
structure Gl(a:Addr)(w:World):Prop where
 tab:CQ w
 pow:Pow w
 big:5<=w.heap.size
 early:wQ w a
 anx:CW w
theorem Gl.sub{a:Addr}{w w':World}(h:Gl a w)(hs:Sub w w'):Gl a w':=by
 refine⟨hs.tab h.tab,?_,aJ h.big hs.1,hs.cell h.early,hs.cell h.anx⟩;have hp:=h.pow;unfold Pow Lib.TabIs World.var? at hp⊢;cases hg:prog.globalNamed "internal/strconv.uint64pow10" with
 |none=>rw[hg]at hp;cases hp
 |some g=>
  rw[hg]at hp;simp only[fB]at hp⊢;split at hp
  .rename_i cs t fr hc;rw[hs.2 _ _ _ _ hc];exact hp
  .cases hp
section
variable {w:World}

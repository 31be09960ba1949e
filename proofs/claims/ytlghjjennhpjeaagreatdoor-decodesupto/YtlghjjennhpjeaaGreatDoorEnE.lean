import Derived.Test.YtlghjjennhpjeaaGreatDoorScanC
import Derived.StillTailTactics
import Derived.Laws.AppendOwnNone
set_option maxHeartbeats 4000000
set_option maxRecDepth 100000
namespace Go.Proofs.Y
open Go.Proofs.Tryz
open Go.RowKit Go.Deep
def part(l:aj)(a n:Nat):aj:=(l.drop a).take n
theorem qF{l:aj}{a n:Nat}(h:a+n<=l.length):(part l a n).length=n:=by simp[part];omega
theorem uV{l:aj}{a n i:Nat}(hi:i<n):sV (part l a n) i=sV l (a+i):=by simp[sV,part,hi]
theorem xM.part{w:ah}{bb bo:Nat}{l:aj}(h:xM w bb bo l){a n:Nat}(hn:a+n<=l.length):xM w bb (bo+a) (part l a n):=by intro i hi;rw[qF hn]at hi;rw[uV hi,dO];exact h (a+i) ag
def sS(l:aj)(a n:Nat):Option (Nat×Nat):=
 if l.length<a+n+8 then some (4,l.length)else if part l (a+n) 8=FI 8 (sumOf (part l a n))then none else some (6,a+n)
theorem mixed:prog.follows .mixedOrders=true:=ak
theorem ags{a b:aj}{c:Nat}(ha:c<a.length)(hb:c<b.length):a.take (c+1)=b.take (c+1)↔a.take c=b.take c/\sV a c=sV b c:=by
 rw[oU ha,oU hb];have e1:sV a c=a[c].toNat:=by simp[sV,bQ ha]
 have e2:sV b c=b[c].toNat:=by simp[sV,bQ hb]
 rw[e1,e2];constructor
 .intro h;have:=List.append_inj h aJ;exact⟨this.1,by rw[(List.cons.inj this.2).1]⟩
 .rintro⟨h1,h2⟩;rw[h1,auF.1 h2]
theorem UW(bb bo len cap:Nat)(I:Int)(i:Nat)(hI:I=i)(hi:i<len):∀w,(Instr.indexAt 24 (.slice (some ⟨bb,bo,none⟩) len cap) (.int .i64 I)).run prog w=.ok (.pointer (some ⟨bb,bo+i,none⟩)) w:=by intro w;subst hI;have h1:(i:Int)<(len:Int):=ag;simp[go_sem,h1,Hg]
theorem uA{P:aP}{id:Nat}{Q:Exit->Act->ah->Prop}{a:Act}{w:ah}{l:List Oper}(n:Nat)(hm:P.follows .mixedOrders=true)(hB:Region.lexTailB .any l.toArray n=true)
  (h:wpStill P l.toArray w.drew (λa'=>wpList P l.toArray Q (l.drop n) a' w.drew) (l.take n) a):(Code.region id l.toArray true).wp P Q a w:=wp_region_still_tail n hm hB h
theorem wQ(bb bo len cap:Nat)(L H:Int)(a h:Nat)(hL:L=a)(hH:H=h)(hah:a<=h)(hc:h<=cap)(ha:a<cap):∀w,(Instr.slice 24 (.slice (some ⟨bb,bo,none⟩) len cap) (some (.int .i64 L)) (some (.int .i64 H)) none).run prog w=.ok (.slice (some ⟨bb,bo+a,none⟩) (h-a) (cap-a)) w:=by
 intro w;subst hL hH;have hu:prog.underlying 24=some (.slice (prog.elem 24)):=underlying24;rw[run_slice_lh w 24 _ _ _ hu .i64 .i64 a h ag ag ag]
 have hsz:(sizeOf (prog.elem 24)).run prog w=.ok 1 w:=by simp[sizeOf,go_sem];rfl
 exact ax1
theorem ai7(sb:Nat)(N:Int)(n:Nat)(hN:N=n)(hn:n<2^30)(bb bo cap:Nat)(BR:bb≠sb)(l:aj)(hl:l.length<2^60)(uF:l.length<=cap)(at_ e p:Nat)(ha:at_<2^59)(w:ah)(h:H_ w sb (.slice (some ⟨bb,bo,none⟩) l.length cap) at_ e p)(hb:xM w bb bo l)(Ah:bb<w.heap.size):
  Calls prog 60 #[.pointer (some ⟨sb,0,none⟩),.int .i64 N] w λr w'=>r=.returned (.tuple #[])/\H_ w' sb (.slice (some ⟨bb,bo,none⟩) l.length cap) at_ (eOf (sS l at_ n) e) (pOf (sS l at_ n) e p)/\qG w.heap.size (· =sb) w w':=by
 subst hN;have Kr:=ql.lt h;have c0:=h.c0;have c1:=h.c1;have c2:=h.c2;go_enter func60,ntmps60;by_cases he:e=0
 .subst he;by_cases Z8:l.length<at_+n+8
  .have H2:Hid (sS l at_ n=some (4,l.length)):=by show sS l at_ n=_;unfold sS;rw[ax Z8]
   have ary:(l.length:Int)<(at_:Int)+(n:Int)+8:=ag;clear Z8;go_wp2
   go_quiet (fail)
   go_wp2_with(first|(go_at_call 61;refine(OX sb _ _ 4 l.length aF aF _ at_ 0 p _ (by exact h.heap rfl)).mono ?_;rintro r w' ⟨rfl,h1,b1⟩))
   refine dS (iF rfl _ _ _) rfl ?_;exact⟨rfl,avD,((qG.refl _ _ _).drewN _).trans b1⟩
  .have ary:decide ((l.length:Int)<(at_:Int)+(n:Int)+8)=false:=aJ;have TR:=hb.part (a:=at_) (n:=n) ag;have uD:(part l at_ n).length=n:=qF ag;go_wp2
   go_quiet (fail)
   go_wp2;have hsl:=wQ bb bo l.length cap (at_:Int) ((at_:Int)+(n:Int)) at_ (at_+n) rfl aA ag ag ag;have RU:IntKind.i64.wrap ((at_:Int)+(n:Int))=(at_:Int)+(n:Int):=dH _ ag;refine uA 15 mixed ak ?_;simp only[jc,gG,jm,ik]
   repeat still_step
   refine wpStill_nil ?_;clear hsl RU
   go_wp2_with(first|(go_at_call 87;refine(agt bb (bo+at_) n (cap-at_) (part l at_ n) uD ag _ (by exact TR) (by exact Ah)).mono ?_;rintro r w1 ⟨g,gc,rfl,hg0,Ko,hgb,E8⟩))
   have yQ:qG w.heap.size (· =sb) w w1:=((qG.refl _ _ _).drewN _).trans (.qw E8)
   have AZ:H_ w1 sb (.slice (some ⟨bb,bo,none⟩) l.length cap) at_ 0 p:=by have hh:w1.heap[sb]?=w.heap[sb]?:=E8.block sb Kr;unfold H_ ql at*;rw[hh];exact h
   have hy:xM w1 bb bo l:=hb.later yQ Ah BR;have ar2:bb<w1.heap.size:=bH Ah yQ.size;have atL:sb<w1.heap.size:=ql.lt AZ
   have hgs:g≠sb:=by have:w.heap.size<=g:=hg0;omega
   clear TR uD E8 hg0 c0 c1 c2 h hb;obtain⟨q,eq⟩:∃q,FI 8 (sumOf (part l at_ n))=q:=⟨_,rfl⟩;have hq8:q.length=8:=by rw[<-eq,Es]
   have hq:∀c,c<8->w1.cell? ⟨g,n+c,none⟩=some (.int .u8 (sV q c:Int)):=by intro c hc;have uD:(part l at_ n).length=n:=qF ag;have:=hgb (n+c) (by rw[bM,uD,eq,hq8];omega);rw[bJ,eq]at this;rw[this];simp only[sV,bG];rw[ji ag,uD,iJ]
   have HE:Hid (sS l at_ n=if part l (at_+n) 8=q then none else some (6,at_+n)):=by show sS l at_ n=_;unfold sS;rw[au ag,eq]
   clear eq hgb ary
   go_loopw [5] (λvi wr=>∃c:Nat,c<=8/\vi=.int .i64 ((n+c:Nat):Int)/\qG w1.heap.size (· =sb) w1 wr/\
    H_ wr sb (.slice (some ⟨bb,bo,none⟩) l.length cap) at_ (if(part l (at_+n) 8).take c=q.take c then 0 else 6) (if(part l (at_+n) 8).take c=q.take c then p else at_+n)) (λi _=>n+8-(intOf i).toNat)
   case atStart=>exact⟨0,ag,aA,qG.refl _ _ _,by simpa using AZ⟩
   case round=>
    obtain⟨c,hc,rfl,hB,hS⟩:=hrel;by_cases qB:c<8
    .have c0:=hS.c0;have c1:=hS.c1;have hcell:=(hy.later hB ar2 BR) (at_+(n+c)) ag;have hcq:=(hB.cell (p:=⟨g,n+c,none⟩) Ko hgs).trans (hq c qB);obtain⟨x,ex⟩:∃x,sV q c=x:=⟨_,rfl⟩;obtain⟨y,ey⟩:∃y,sV l (at_+(n+c))=y:=⟨_,rfl⟩;have uD:(part l (at_+n) 8).length=8:=qF ag;have qZ:=ags (a:=part l (at_+n) 8) (b:=q) (c:=c) ag ag;rw[uV qB,dO,ex,ey]at qZ;rw[ex]at hcq;rw[ey]at hcell;have HN:Hid ((part l (at_+n) 8).take (c+1)=q.take (c+1)↔(part l (at_+n) 8).take c=q.take c/\y=x):=qZ;have RU:IntKind.i64.wrap ((at_:Int)+(n:Int))=(at_:Int)+(n:Int):=dH _ ag;have Xi:IntKind.i64.wrap ((at_:Int)+((n:Int)+(c:Int)))=(at_:Int)+((n:Int)+(c:Int)):=dH _ ag;have F_:=UW g 0 (n+8) gc ((n:Int)+(c:Int)) (n+c) aA ag;have IG:=UW bb bo l.length cap ((at_:Int)+((n:Int)+(c:Int))) (at_+(n+c)) aA ag;rw[bJ]at F_;generalize hee:(if(part l (at_+n) 8).take c=q.take c then 0 else 6)=ee at hS;generalize hpp:(if(part l (at_+n) 8).take c=q.take c then p else at_+n)=pp at hS;have HEE:Hid (_=ee):=hee;have HPP:Hid (_=pp):=hpp;clear hee hpp qZ ex ey uD hq hy AZ HE;go_wp2;refine uA 24 mixed ak ?_;simp only[jc,gG,jm,ik]
     repeat still_step
     refine wpStill_nil ?_;clear F_ IG RU Xi c0 c1 hcell hcq
     go_wp2_with(first|(go_at_call 31;refine(aa9 sb ((x:Int)==(y:Int)) _ _ 6 (at_+n) aF aA _ at_ ee pp _ avQ).mono ?_;rintro r w' ⟨rfl,h1,b1⟩))
     go_roundw
     case rel=>
      refine⟨c+1,ag,aV,(hB.drewN _).trans (b1.mono hB.size (λ_ x=>x)),?_⟩
      have e1:(if((x:Int)==(y:Int))=true then ee else first ee 6)=if(part l (at_+n) 8).take (c+1)=q.take (c+1)then 0 else 6:=by
       rw[<-HEE.out];by_cases hA:(part l (at_+n) 8).take c=q.take c
       .by_cases hxy:y=x
        .rw[ax (HN.out.2 ⟨hA,hxy⟩),hxy,ax hA];simp
        .rw[au (λhh=>hxy (HN.out.1 hh).2),ax hA,au aJ];rfl
       .rw[au (λhh=>hA (HN.out.1 hh).1),au hA];simp[first]
      have e2:(if((x:Int)==(y:Int))=true then pp else Ia ee pp (at_+n))=if(part l (at_+n) 8).take (c+1)=q.take (c+1)then p else at_+n:=by
       rw[<-HEE.out,<-HPP.out];by_cases hA:(part l (at_+n) 8).take c=q.take c
       .by_cases hxy:y=x
        .rw[ax (HN.out.2 ⟨hA,hxy⟩),hxy,ax hA];simp
        .rw[au (λhh=>hxy (HN.out.1 hh).2),ax hA,au aJ];simp[Ia,hA]
       .rw[au (λhh=>hA (HN.out.1 hh).1),au hA];simp[Ia,hA]
      rw[<-e1,<-e2];exact h1
     case measure=>simp[intOf];omega
    .have e8:c=8:=ag;subst e8;go_wp2;refine bodyPost_end (iF rfl _ _ _) rfl ?_;have uD:(part l (at_+n) 8).length=8:=qF ag;refine⟨rfl,?_,yQ.trans (hB.mono yQ.size (λ_ x=>x))⟩;have t1:(part l (at_+n) 8).take 8=part l (at_+n) 8:=gZ ag;have t2:q.take 8=q:=gZ ag;rw[t1,t2]at hS;rw[HE.out];by_cases hA:part l (at_+n) 8=q
     .rw[ax hA]at hS⊢;rw[ax hA]at hS;exact hS
     .rw[au hA]at hS⊢;rw[au hA]at hS;exact hS
 .have LM:((e:Int)==0)=false:=aJ;have E:Hid (¬e=0):=he;clear he;go_wp2;refine dS (iF rfl _ _ _) rfl ?_;exact⟨rfl,by rw[Zg E.out,Zh E.out];exact h,qG.refl _ _ _⟩
def qP(w:ah)(v:ai)(xs:aK):Prop:=
 ∃ba cap,v=.slice ba xs.length cap/\xs.length<=cap/\∀j u,xs[j]?=some u->∃b off,ba=some ⟨b,off,none⟩/\w.cell? ⟨b,off+j,none⟩=some u
theorem rY{w:ah}{p:Addr}{u:ai}(h:w.cell? p=some u):p.block<w.heap.size:=by
 rcases bK p.block w.heap.size with h1|h1
 .exact h1
 .unfold World.cell? at h;have:w.heap[p.block]?=none:=by simp[h1]
  rw[this]at h;split at h<;>simp_all
theorem qP.below{w w':ah}{v:ai}{xs:aK}(h:qP w v xs)(hb:Below w.heap.size w w'):qP w' v xs:=by obtain⟨ba,cap,rfl,hle,hc⟩:=h;refine⟨ba,cap,rfl,hle,λj u hj=>?_⟩;obtain⟨b,off,e,hh⟩:=hc j u hj;exact⟨b,off,e,(hb.cell (p:=⟨b,off+j,none⟩) (rY hh)).trans hh⟩
def uU(l:List (aj)):aK:=l.map λs=>Value.string ⟨s.toArray⟩
def Jp(l:dM):aK:=l.map λz=>Value.int .i64 z
theorem xx(l:List (aj)):(uU l).length=l.length:=by simp[uU]
theorem Q7(l:dM):(Jp l).length=l.length:=by simp[Jp]
theorem Aq{l:List (aj)}{j:Nat}(h:j<l.length):(uU l)[j]?=some (.string ⟨(l.getD j []).toArray⟩):=by simp[uU,bQ h]
theorem ae4{l:dM}{j:Nat}(h:j<l.length):(Jp l)[j]?=some (.int .i64 (l.getD j 0)):=by simp[Jp,bQ h]
theorem wF{l:aj}{j:Nat}(h:j<l.length):(rP l)[j]?=some (.int .u8 (sV l j:Int)):=by obtain⟨u,hu⟩:∃u,(rP l)[j]?=some u:=⟨_,bQ (by simpa[rP]using h)⟩;obtain⟨_,rfl⟩:=JE hu;exact hu
def UX(a b:aj):Bool:=Op.bytesLess a b||a==b
structure Sh where
 K:Int
 N:Int
 I:Int
 C:Int
 ns:List (aj)
 zs:dM
 qC:aj
def Dk(ns:List (aj)):Prop:=∀i,i<ns.length->(1<=(ns.getD i []).length/\(ns.getD i []).length<=255)/\(0<i->UX (ns.getD i []) (ns.getD (i-1) [])=false)
def OY(zs:dM):Prop:=∀i,i<zs.length->0<=zs.getD i 0
def afC(ns:List (aj)):Nat:=4+(ns.map λn=>6+n.length).sum
def Nb(zs:dM):Nat:=(zs.map Int.toNat).sum
def rO(k t:Nat):Nat:=(t+k-1)/k
structure Sh.Xc(s:Sh):Prop where
 k1:1<=s.K
 kn:s.K<=s.N
 n1:s.N<=128
 i0:0<=s.I
 iN:s.I<s.N
 c1:1<=s.C
 c2:s.C<=65536
structure Sh.Listed(s:Sh):Prop where
 len:s.ns.length=s.zs.length
 names:Dk s.ns
 sizes:OY s.zs
structure Sh.Few(s:Sh):Prop where
 ang:s.ns.length<=1000
 bytes:Nb s.zs<=65536
 man:afC s.ns<=300000
def Sh.ak_(s:Sh):Prop:=s.qC.length=rO s.K.toNat (Nb s.zs)
def Sh.Bad(s:Sh):Prop:=s.I<s.K/\∃m,m<s.qC.length/\Nb s.zs<=s.I.toNat*rO s.K.toNat (Nb s.zs)+m/\sV s.qC m≠0
open Classical in
noncomputable def Sh.err(s:Sh):Nat:=
 if¬s.Xc then 1 else if¬s.Listed then 2 else if¬s.Few then 3 else if¬s.ak_ then 15 else if s.Bad then 8 else 0
def Gp(ns:List (aj))(zs:dM)(i:Nat):aj:=FI 4 ns.length++(List.range i).flatMap λj=>FI 2 (ns.getD j []).length++(ns.getD j []++FI 4 (zs.getD j 0).toNat)
theorem adk(ns:List (aj))(zs:dM)(i:Nat):Gp ns zs (i+1)=Gp ns zs i++FI 2 (ns.getD i []).length++ns.getD i []++FI 4 (zs.getD i 0).toNat:=by simp[Gp,dP]
def Oi(l:aj):aj:=l++FI 8 (sumOf l)
def afD(s:Sh):aj:=Gp s.ns s.zs s.ns.length
def b8(x:Int):UInt8:=UInt8.ofNat (x.toNat%256)
def akK(s:Sh)(m:Nat):aj:=[67,65,73,82,78,49]++([b8 s.K,b8 s.N,b8 s.I,0]++(FI 4 s.C.toNat++(FI 4 m++(FI 4 s.qC.length++[0,0]))))
def UY(c:Nat)(qC:aj)(k:Nat):aj:=Oi (part qC (k*c) (min c (qC.length-k*c)))
def D6(c:Nat)(qC:aj)(i:Nat):aj:=(List.range i).flatMap (UY c qC)
def nFr(c n:Nat):Nat:=(n+c-1)/c
def wrB(s:Sh):aj:=Oi (akK s (afD s).length)++Oi (afD s)++D6 s.C.toNat s.qC (nFr s.C.toNat s.qC.length)++[68,79,78,69]
theorem OZ(ns:List (aj))(zs:dM):∀i,(Gp ns zs i).length=4+((List.range i).map λj=>6+(ns.getD j []).length).sum
 |0=>by simp[Gp,Es]
 |i+1=>by rw[adk];simp only[bM,Es,OZ ns zs i,dP,iP,je,kU,jd,nD,auQ];omega
theorem JF{α β:Type}(l:List α)(d:α)(f:α->β):(List.range l.length).map (λj=>f (l.getD j d))=l.map f:=by
 apply pF
 .simp
 .intro i h1 h2;have:i<l.length:=iD;simp[bQ this]
theorem aad(s:Sh):(afD s).length=afC s.ns:=by unfold afD afC;rw[OZ,JF s.ns [] (λn=>6+n.length)]
def Bg(zs:dM)(i:Nat):Nat:=((List.range i).map λj=>(zs.getD j 0).toNat).sum
theorem NH(zs:dM)(i:Nat):Bg zs (i+1)=Bg zs i+(zs.getD i 0).toNat:=by simp[Bg,dP]
theorem Qj(zs:dM):Bg zs zs.length=Nb zs:=by unfold Bg Nb;rw[JF zs 0 Int.toNat]
theorem UZ(zs:dM)(i:Nat):∀d,Bg zs i<=Bg zs (i+d)
 |0=>ay _
 |d+1=>by have:=UZ zs i d;rw[<-dO,NH];omega
theorem aa_(zs:dM){i:Nat}(h:i<=zs.length):Bg zs i<=Nb zs:=by rw[<-Qj];have:=UZ zs i (zs.length-i);rwa[show i+(zs.length-i)=zs.length by omega]at this
theorem qG.aba{w w':ah}{row:Option Nat}(h:w.grownBy w' row):qG w.heap.size (λk=>row=some k) w w':=
 ⟨h.os,h.tape,h.output,h.size,λk hk hs=>h.block k hk (λe=>hs e.symm)⟩
theorem U0{w:ah}{base n:Nat}{v:ai}{l:aj}(h:w.ownsRow base 5 1 v n (rP l))(hn:0<n):∃g c,v=.slice (some ⟨g,0,none⟩) l.length c/\n=l.length/\base<=g/\g<w.heap.size/\n<=c/\xM w g 0 l:=by
 have hl:l.length=n:=aw2;rcases h.2 with⟨_,h0⟩|⟨g,c,cur,rfl,hg,hh,hc,_⟩
 .omega
 refine⟨g,c,nZ,hl.symm,hg,(eG.1 hh).1,hc,λi hi=>?_⟩;have:=h.cellAt i ag;rw[bJ,this];exact wF hi
end Go.Proofs.Y
namespace Go.Proofs.Y
open Go.Proofs.Tryz
open Go.RowKit
theorem amc(b off len cap:Nat)(xs:aC)(hl:xs.length=len)(hx:∀i,i<len->xs.getD i 0<256)(hm:len<=9223372036854775807)(w:ah)(hc:∀i,i<len->w.cell? ⟨b,off+i,none⟩=some (.int .u8 ((xs.getD i 0:Nat):Int)))
  (ht:∀i,i<16->w.cell? ⟨3,i,none⟩=some (.int .u64 ((FX.getD i 0:Nat):Int))):
  Calls prog 138 #[.slice (some ⟨b,off,none⟩) len cap] w λe w'=>e=.returned (.int .u64 (crc xs:Nat))/\w'=w:=by
 go_enter func138,ntmps138;go_wp2
 go_loop [3,5,8] (λvs vb vi=>∃k s:Nat,k<=len/\s<2^64/\vs=.int .u64 (s:Int)/\vi=.int .i64 (k:Int)/\Hid (Ja s (xs.drop k)=Ja yH xs)) (λ_ _ i=>len-(intOf i).toNat)
 case atStart=>exact⟨0,yH,ag,Lh,rfl,rfl,rfl⟩
 case round=>
  obtain⟨k,s,hk,hs,rfl,rfl,H⟩:=hrel;by_cases qB:k<len
  .have hcell:=hc k qB;have hb:=hx k qB;obtain⟨x,ex⟩:∃x,xs.getD k 0=x:=⟨_,rfl⟩;rw[ex]at hcell hb;have ey:=Et hs (oM hb aB);obtain⟨y,hy⟩:∃y,s^^^x=y:=⟨_,rfl⟩;have ly:y<2^64:=hy▸gY hs (oM hb aB);rw[hy]at ey;obtain⟨m1,t1,z1,hm1,PX,lz1,wW,e1,e2⟩:=four ly;obtain⟨m2,t2,z2,hm2,ht2,lz2,vV,e3,e4⟩:=four lz1;have V5:=ht m1 hm1;have hc2:=ht m2 hm2;rw[<-PX]at V5;rw[<-ht2]at hc2
   have G:Hid (Ja z2 (xs.drop (k+1))=Ja yH xs):=by
    have hz:z2=abb s x:=by rw[vV,wW,<-abd,<-hy];rfl
    rw[hz];exact XH ag ex H.out
   clear ex hc hx ht PX ht2 wW vV hy H;go_wp2
   go_round
   case rel=>exact⟨k+1,z2,ag,lz2,rfl,aV,G⟩
   case measure=>simp[intOf];omega
  .have e:k=xs.length:=ag
   have G:Hid (s=Ja yH xs):=by have:=H.out;rw[e,auU]at this;exact this
   clear H hc hx ht;exact axN
end Go.Proofs.Y
namespace Go.Proofs.Y
open Go.Proofs.Tryz
open Go.RowKit Go.Deep
theorem XJ{a b:Bool}(h:a=b):Ending.returned (.bool a)=.returned (.bool b):=iU
theorem U1(n:Int)(hn: -9223372036854775808<=n/\n<=9223372036854775807):wrap64 n=n:=(IntWalk.i64_left n).symm.trans (dH n hn)
theorem Fg(K T:Int)(k t:Nat)(hK:K=k)(hT:T=t)(hk:1<=k)(SY:k<=255)(ht:t<=65536)(w:ah):
  Calls prog 116 #[.int .i64 K,.int .i64 T] w λr w'=>r=.returned (.int .i64 (rO k t:Nat))/\w'=w:=by
 subst hK hT
 have W1:Hid (((t:Int)+(k:Int)-1)/(k:Int)=(rO k t:Nat)):=by show((t:Int)+(k:Int)-1)/(k:Int)=(rO k t:Nat);rw[show(t:Int)+(k:Int)-1=((t+k-1:Nat):Int)by omega,<-auX];rfl
 go_enter func116,ntmps116;go_wp2;go_ret;exact⟨yZ (by rw[W1.out]),rfl⟩
def U2(l:aj)(F:Int)(r:Ending):Prop:=∃x:Int,r=.returned (.int .i64 x)/\((x= -1/\∀m:Nat,F<=(m:Int)->m<l.length->sV l m=0)\/∃m:Nat,x=(m:Int)/\F<=(m:Int)/\m<l.length/\sV l m≠0/\∀m':Nat,m'<m->F<=(m':Int)->sV l m'=0)
theorem Zk(F:Int)(hF: -1000000000000<=F/\F<=1000000000000)(v:ai)(l:aj)(hl:l.length<=9223372036854775807)(w:ah)(h:qP w v (rP l)):
  Calls prog 135 #[v,.int .i64 F] w λr w'=>w'=w/\U2 l F r:=by
 obtain⟨ba,cap,rfl,uF,hc⟩:=h;rw[ru]at uF⊢;obtain⟨f,hf⟩:∃f:Nat,f=F.toNat:=⟨_,rfl⟩;have hmax:max (0:Int) F=(f:Int):=ag;have hfb:f<=1000000000000:=ag;go_enter func135,ntmps135;go_wp2
 all_goals
  go_loop [5] (λvi=>∃c:Nat,f<=c/\(c<=l.length\/c=f)/\vi=.int .i64 (c:Int)/\∀m:Nat,m<c->F<=(m:Int)->m<l.length->sV l m=0) (λi=>l.length-(intOf i).toNat)
  case atStart=>exact⟨f,ay _,.inr rfl,by congr 1;omega,λm hm hm2 _=>ag⟩
  case round=>
   obtain⟨c,hfc,LP,rfl,hz⟩:=hrel;by_cases qB:c<l.length
   .obtain⟨b,off,rfl,hcell⟩:=hc c _ (wF qB);have hb:=Ha l c;obtain⟨y,ey⟩:∃y,sV l c=y:=⟨_,rfl⟩;rw[ey]at hcell hb;have HY:Hid (sV l c=y):=ey;have HZ:Hid _:=hz;have HF:Hid (f=F.toNat):=hf;clear ey hz hc hmax hf hfb;by_cases hy:y=0
    .subst hy;go_wp2
     go_round
     case rel=>
      refine⟨c+1,ag,.inl ag,aV,λm hm hm2 hm3=>?_⟩;rcases bK m c with h1|h1
      .exact HZ.out m h1 hm2 hm3
      .obtain rfl:m=c:=ag;exact HY.out
     case measure=>simp[intOf];omega
    .have hy':((y:Int)==0)=false:=aJ;have hy2:((y:Int) != 0)=true:=aJ;go_wp2;go_ret;refine⟨rfl,_,rfl,.inr ⟨c,rfl,?_,qB,?_,λm' h1 h2=>HZ.out m' h1 h2 ag⟩⟩
     .have:=HF.out;omega
     .rw[HY.out];exact hy
   .clear hc;have HZ:Hid _:=hz;clear hz;go_wp2;go_ret;exact⟨rfl,_,rfl,.inl ⟨rfl,λm h1 h2=>HZ.out m ag h1 h2⟩⟩
theorem amd(s:aj):(ByteArray.mk s.toArray).size=s.length:=by simp[ByteArray.size]
def aqe(ns:List (aj))(zs:dM):Prop:=ns.length<=1000/\Nb zs<=65536/\afC ns<=300000
def ame(k n:Int):Prop:=1<=k/\k<=n/\n<=128
def ai8(k n c:Int):Prop:=ame k n/\1<=c/\c<=65536
def Fv(k i t:Nat):Int:=if k<=i then(rO k t:Int)else max 0 (min (rO k t:Int) ((t:Int)-((i*rO k t:Nat):Int)))
theorem G_{k:Nat}(hk:1<=k)(t:Nat):rO k t<=t:=by
 unfold rO;rcases gy t with rfl|h
 .rw[oQ ag];omega
 .have h1:(t+k-1)/k<t+1:=by
   rw[auO ag];have:t*1<=t*k:=avV t hk;rw[iM];omega
  omega
theorem ai9(K I T:Int)(k i t:Nat)(hK:K=k)(hI:I=i)(hT:T=t)(hk:1<=k)(SY:k<=255)(hi:i<=255)(ht:t<=65536)(w:ah):
  Calls prog 134 #[.int .i64 K,.int .i64 I,.int .i64 T] w λr w'=>r=.returned (.int .i64 (Fv k i t))/\w'=w:=by
 have K1:=Fg K T k t hK hT hk SY ht w;subst hK hI hT;have hL:=G_ hk t;unfold Fv;obtain⟨L,eL⟩:∃L,rO k t=L:=⟨_,rfl⟩;rw[eL]at K1 hL⊢;obtain⟨p,ep⟩:∃p,i*L=p:=⟨_,rfl⟩;have hp:p<=255*65536:=by rw[<-ep];exact iI hi ag
 have BJ:(i:Int)*(L:Int)=(p:Int):=by rw[<-ep];simp
 rw[ep];clear eL ep hk;by_cases Jd:k<=i
 .rw[ax Jd];go_enter func134,ntmps134
  go_wp2_with(first|(go_at_call 116;refine K1.mono ?_;rintro r w' ⟨rfl,sH⟩;obtain rfl:=sH.symm))
  exact axh
 .rw[au Jd];have W1:wrap64 (p:Int)=(p:Int):=U1 _ ag;have W2:wrap64 ((t:Int)-(p:Int))=(t:Int)-(p:Int):=U1 _ ag;rcases nK ((t:Int)-(p:Int)) (L:Int)with c1|c1
  .rcases nK 0 ((t:Int)-(p:Int))with c2|c2
   .have HG:Hid (max 0 (min (L:Int) ((t:Int)-(p:Int)))=(t:Int)-(p:Int)):=mg;go_enter func134,ntmps134
    go_wp2_with(first|(go_at_call 116;refine K1.mono ?_;rintro r w' ⟨rfl,sH⟩;obtain rfl:=sH.symm))
    all_goals go_ret
    all_goals exact⟨yZ n_,rfl⟩
   .have HG:Hid (max 0 (min (L:Int) ((t:Int)-(p:Int)))=0):=mg;go_enter func134,ntmps134
    go_wp2_with(first|(go_at_call 116;refine K1.mono ?_;rintro r w' ⟨rfl,sH⟩;obtain rfl:=sH.symm))
    all_goals go_ret
    all_goals exact⟨yZ n_,rfl⟩
  .rcases gy L with c2|c2
   .have HG:Hid (max 0 (min (L:Int) ((t:Int)-(p:Int)))=0):=mg;subst c2;go_enter func134,ntmps134
    go_wp2_with(first|(go_at_call 116;refine K1.mono ?_;rintro r w' ⟨rfl,sH⟩;obtain rfl:=sH.symm))
    all_goals go_ret
    all_goals exact⟨yZ (by rw[HG.out];try rfl),rfl⟩
   .have HG:Hid (max 0 (min (L:Int) ((t:Int)-(p:Int)))=L):=mg;go_enter func134,ntmps134
    go_wp2_with(first|(go_at_call 116;refine K1.mono ?_;rintro r w' ⟨rfl,sH⟩;obtain rfl:=sH.symm))
    all_goals go_ret
    all_goals exact⟨yZ n_,rfl⟩
structure Sh.In(s:Sh)(w:ah)(vN vS vC:ai):Prop where
 names:qP w vN (uU s.ns)
 sizes:qP w vS (Jp s.zs)
 qC:qP w vC (rP s.qC)
 nl:s.ns.length<=9223372036854775807
 zl:s.zs.length<=9223372036854775807
 cl:s.qC.length<=9223372036854775807
 ml:∀n∈s.ns,n.length<=9223372036854775807
def U3(l:aj)(F:Int):Int:=match(List.range l.length).find? (λm:Nat=>decide (F<=(m:Int)/\sV l m≠0))with
 |some m=>(m:Int)
 |none=> -1
theorem U2.is{l:aj}{F:Int}{r:Ending}(h:U2 l F r):r=.returned (.int .i64 (U3 l F)):=by
 obtain⟨x,rfl,hx⟩:=h;rcases hx with⟨rfl,hz⟩|⟨m,rfl,h1,h2,h3,h4⟩
 .have:(List.range l.length).find? (λm:Nat=>decide (F<=(m:Int)/\sV l m≠0))=none:=by
   rw[pz];intro m hm;have:=hz m;simp only[jM]at hm;simp only[iG];rintro⟨g1,g2⟩;exact g2 (this g1 hm)
  unfold U3;rw[this]
 .have:(List.range l.length).find? (λm:Nat=>decide (F<=(m:Int)/\sV l m≠0))=some m:=by
   rw[pq];refine⟨by simp only[iG];exact⟨h1,h3⟩,jE,λj hj=>?_⟩;have:=h4 j hj;simp only[auZ,auD];rintro⟨g1,g2⟩;exact g2 (this g1)
  unfold U3;rw[this]
theorem adl(F:Int)(hF: -1000000000000<=F/\F<=1000000000000)(v:ai)(l:aj)(hl:l.length<=9223372036854775807)(w:ah)(h:qP w v (rP l)):
  Calls prog 135 #[v,.int .i64 F] w λr w'=>r=.returned (.int .i64 (U3 l F))/\w'=w:=
 (Zk F hF v l hl w h).mono λ_ _ hx=>⟨hx.2.is,hx.1⟩
theorem qP.drewN{w:ah}{v:ai}{xs:aK}(h:qP w v xs)(n:Nat):qP (w.drewN n) v xs:=by
 obtain⟨ba,cap,rfl,hle,hc⟩:=h
 exact⟨ba,cap,rfl,hle,λj u hj=>by obtain⟨b,off,e,hh⟩:=hc j u hj;exact⟨b,off,e,by rw[<-hh];simp⟩⟩
theorem below_drewN{B:Nat}{a w:ah}(h:Below B a w)(n:Nat):Below B a (w.drewN n):=h.trans ⟨rfl,rfl,rfl,ay _,λ_ _=>rfl⟩
theorem ac3(v:ai)(zs:dM)(hl:zs.length<=9223372036854775807)(hzo:OY zs)(ht:Nb zs<=65536)(w:ah)(h:qP w v (Jp zs)):
  Calls prog 50 #[v] w λr w'=>r=.returned (.int .i64 (Nb zs:Nat))/\w'=w:=by
 obtain⟨ba,cap,rfl,uF,hcz⟩:=h;rw[Q7]at uF⊢;obtain⟨t,et⟩:∃t,Nb zs=t:=⟨_,rfl⟩;have hto:∀c,c<=zs.length->Bg zs c<=t:=λc hc=>et▸aa_ zs hc
 have xg:Bg zs zs.length=t:=by rw[Qj,et]
 rw[et]at ht⊢;clear et;go_enter func50,ntmps50;go_wp2
 go_loop [3,5,8] (λvt _ vi=>∃c:Nat,c<=zs.length/\vi=.int .i64 (c:Int)/\vt=.int .i64 (Bg zs c:Nat)) (λ_ _ i=>zs.length-(intOf i).toNat)
 case atStart=>exact⟨0,ag,rfl,rfl⟩
 case round=>
  obtain⟨c,atM,rfl,rfl⟩:=hrel;by_cases qB:c<zs.length
  .obtain⟨b,off,rfl,hcell⟩:=hcz c _ (ae4 qB);have hzc:=hzo c qB;obtain⟨z,e2⟩:∃z:Nat,zs.getD c 0=(z:Int):=⟨(zs.getD c 0).toNat,ag⟩
   have HS:Hid (Bg zs (c+1)=Bg zs c+z):=by show _=_;rw[NH,e2];simp
   have rq:Bg zs c+z<=65536:=by rw[<-HS.out];exact bF (hto (c+1) ag) ht
   rw[e2]at hcell;obtain⟨y,ey⟩:∃y,Bg zs c=y:=⟨_,rfl⟩;rw[ey]at HS rq⊢;clear e2 hzc hcz hzo ey xg hto;go_wp2
   go_round
   case rel=>exact⟨c+1,ag,aV,by rw[HS.out];go_num⟩
   case measure=>simp[intOf];omega
  .obtain rfl:c=zs.length:=ag;rw[xg];clear hcz hzo xg hto;exact axd
section
variable (K N I C:Int)(ns:List (aj))(zs:dM)(qC:aj)(vN vS vC:ai)(w:ah)(h:(Sh.mk K N I C ns zs qC).In w vN vS vC)(H1:Hid (ai8 K N C))(i0:0<=I)(iN:I<N)
end
end Go.Proofs.Y
namespace Go.Proofs.Y
open Go.Proofs.Tryz
open Go.RowKit Go.Deep Go.Hp
theorem Tryz.UJ:(prog.info? 63).map (λi=>(i.zero,i.size,i.bytes))=some (some (.agg #[.string ⟨#[]⟩,.slice none 0 0]),2,40):=ak
def MH(e:rU):aK:=[Np e.k,e.d]
def tY(n:Nat)(f:Nat->rU):aK:=(List.range n).flatMap λi=>MH (f i)
theorem yD(n:Nat)(f:Nat->rU):tY (n+1) f=tY n f++MH (f n):=by unfold tY;rw[dP,pg];simp
theorem y8(n:Nat)(f:Nat->rU):(tY n f).length=n*2:=by
 induction n with
 |zero=>rfl
 |succ n ih=>rw[yD,bM,ih];simp[MH];omega
theorem BA(n:Nat)(f:Nat->rU)(i p:Nat)(hi:i<n)(hp:p<2):(tY n f)[i*2+p]?=(MH (f i))[p]?:=by
 induction n with
 |zero=>omega
 |succ n ih=>
  rw[yD];by_cases e:i=n
  .subst e;rw[ji avj,y8,show i*2+p-i*2=p by omega]
  .rw[ig avj,ih ag]
theorem Fp{n:Nat}{f g:Nat->rU}(h:∀i,i<n->f i=g i):tY n f=tY n g:=by
 induction n with
 |zero=>rfl
 |succ n ih=>rw[yD,yD,ih λi hi=>h i ag,h n ag]
theorem Lj(e:rU):∀u∈MH e,u.oneCell'=true:=by intro u hu;simp[MH]at hu;rcases hu with rfl|rfl<;>rfl
structure BC(w:ah)(bo:aW)(n:Nat)(f:Nat->rU):Prop where
 here:0<n->∃b o,bo=some ⟨b,o,none⟩/\b<w.heap.size/\∀i,i<n->w.cell? ⟨b,o+i*2,none⟩=some (Np (f i).k)/\w.cell? ⟨b,o+i*2+1,none⟩=some (f i).d
theorem BC.below{w w':ah}{bo:aW}{n B:Nat}{f:Nat->rU}(h:BC w bo n f)(hb:Below B w w')(hB:w.heap.size<=B):BC w' bo n f:=⟨λhn=>by obtain⟨b,o,h1,h2,h3⟩:=h.here hn;exact⟨b,o,h1,bH h2 hb.size,λi hi=>⟨(hb.cell (p:=⟨b,_,none⟩) (bH h2 hB)).trans (h3 i hi).1,(hb.cell (p:=⟨b,_,none⟩) (bH h2 hB)).trans (h3 i hi).2⟩⟩⟩
theorem qH{w w':ah}{B e s n:Nat}{v:ai}{xs:aK}(h:w.ownsRow B e s v n xs)(hk:∀g,v.ownBlock=some g->w'.heap[g]?=w.heap[g]?):w'.ownsRow B e s v n xs:=by
 refine⟨h.1,?_⟩;rcases h.2 with h1|⟨g,cap,cur,h1,h2,h3,h4⟩
 .exact .inl h1
 .exact .inr ⟨g,cap,cur,h1,h2,by rw[hk g (by rw[h1];rfl)];exact h3,h4⟩
theorem x8{w:ah}{B B' t t' s s' n n':Nat}{v v':ai}{xs xs':aK}(h:w.ownsRow B t s v n xs)(h':w.ownsRow B' t' s' v' n' xs')(ht:t≠t'){b:Nat}(hb:v.ownBlock=some b):v'.ownBlock≠some b:=λA8=>by obtain⟨c1,f1,e1⟩:=Lib.ownsRow_kind h b hb;obtain⟨c2,f2,e2⟩:=Lib.ownsRow_kind h' b A8;rw[e1]at e2;cases e2;exact ht rfl
theorem cell_two_new(w:ah)(x y:ai)(t:aG):∀j u,[x,y][j]?=some u->(w.alloc (.cells #[x,y] t)).cell? ((⟨w.heap.size,0,none⟩:Addr).add j)=some u:=by
 intro j u hj
 match j,hj with
 |0,hj=>simp at hj;subst hj;simp[Addr.add]
 |1,hj=>simp at hj;subst hj;simp[Addr.add]
theorem amf{n:Nat}{f g:Nat->rU}(h:qX n f g){i j:Nat}(hi:i<n)(hj:j<n)(PV:i≠j)(e:(g i).k=(g j).k):¬(∀i j,i<j->j<n->(f i).k≠(f j).k):=by
 obtain⟨i',j',h1,h2,h3,h4,h5⟩:=h.two hi hj PV;rw[h4,h5]at e;intro hd;rcases bK i' j' with h|h
 .exact hd i' j' h h2 e
 .exact hd j' i' ag h1 e.symm
theorem ai_{n:Nat}{f:Nat->rU}(h:∀i,i+1<n->Hp.lt (f i).k (f (i+1)).k=true):∀d i,i+d+1<n->Hp.lt (f i).k (f (i+d+1)).k=true
 |0,i,hi=>h i hi
 |d+1,i,hi=>Hp.lt_trans (ai_ h d i ag) (h (i+d+1) ag)
theorem aja{n:Nat}{f g:Nat->rU}(h:qX n f g)(hs:∀i,i+1<n->Hp.lt (g i).k (g (i+1)).k=true):∀i j,i<j->j<n->(f i).k≠(f j).k:=λi j PV hj e=>by
 refine amf h.symm (i:=i) (j:=j) ag hj ag e λi j PV hj e=>?_
 have:=ai_ hs (j-i-1) i ag;rw[show i+(j-i-1)+1=j by omega,e,Hp.lt_irrefl]at this;cases this
def Fits(k:aj):Prop:=1<=k.length/\k.length<=255
def yt(n:Nat)(f:Nat->rU):Prop:=(∀i,i<n->Fits (f i).k)/\∀i j,i<j->j<n->(f i).k≠(f j).k
end Go.Proofs.Y
namespace Go.Proofs.Y
open Go.Proofs.Tryz
open Go.RowKit Go.Deep
def BK(B:Nat)(w:ah)(v:ai)(l:aj):Prop:=w.ownsRow B 5 1 v l.length (rP l)
theorem BK.of{B n:Nat}{w:ah}{v:ai}{l:aj}(h:w.ownsRow B 5 1 v n (rP l)):BK B w v l:=by have:n=l.length:=aw2;subst this;exact h
def amg:Obj->Bool
 | .cells _ t _=>t != 5
 |_=>true
structure atg(w w':ah):Prop where
 size:w.heap.size<=w'.heap.size
 same:∀(k:Nat)(o:Obj),w.heap[k]?=some o->amg o=true->w'.heap[k]?=some o
def LQ(w:ah):Prop:=3<w.heap.size/\∀i,i<16->w.cell? ⟨3,i,none⟩=some (.int .u64 ((FX.getD i 0:Nat):Int))
theorem LQ.below{w w':ah}{B:Nat}(h:LQ w)(hb:Below B w w')(hB:3<B):LQ w':=
 ⟨bH h.1 hb.size,λi hi=>(hb.cell (p:=⟨3,i,none⟩) hB).trans (h.2 i hi)⟩
theorem LQ.heap{w w':ah}(h:LQ w)(hh:w'.heap=w.heap):LQ w':=by refine⟨by rw[hh];exact h.1,λi hi=>?_⟩;have:=h.2 i hi;unfold World.cell? at*;rw[hh];exact this
theorem agu(bb bo cap:Nat)(l:aj)(hl:l.length<2^60)(w:ah)(hb:xM w bb bo l)(ht:LQ w):
  Calls prog 138 #[.slice (some ⟨bb,bo,none⟩) l.length cap] w λe w'=>e=.returned (.int .u64 (sumOf l:Nat))/\w'=w:=
 amc bb bo l.length cap (l.map UInt8.toNat) aA (λi _=>by rw[O0];exact Ha l i) ag w (λi hi=>by rw[O0];exact hb i hi) ht.2
end Go.Proofs.Y
namespace Go.Proofs.Y
open Go.Proofs.Tryz
open Go.RowKit Go.Deep Go.Hp
theorem Tryz.aoO:(prog.info? 9).map (λi=>(i.zero,i.size,i.bytes))=some (some (.string ⟨#[]⟩),1,16):=ak
theorem Tryz.aiO:(prog.info? 3).map (λi=>(i.zero,i.size,i.bytes))=some (some (.int .i64 0),1,8):=ak
def uf(n:Nat)(f:Nat->rU):List (aj):=(List.range n).map λi=>(f i).k
def uJ(n:Nat)(f:Nat->rU):dM:=(List.range n).map λi=>((f i).l:Int)
theorem JD(n:Nat)(f:Nat->rU):(uf n f).length=n:=by simp[uf]
theorem Ea(n:Nat)(f:Nat->rU):(uJ n f).length=n:=by simp[uJ]
theorem Q8(n:Nat)(f:Nat->rU):uU (uf (n+1) f)=uU (uf n f)++[.string ⟨(f n).k.toArray⟩]:=by simp[uU,uf,dP]
theorem Q9(n:Nat)(f:Nat->rU):Jp (uJ (n+1) f)=Jp (uJ n f)++[.int .i64 ((f n).l:Int)]:=by simp[Jp,uJ,dP]
theorem abe(x:ByteArray):∀u∈[Value.string x],u.oneCell'=true:=by exact axF
theorem OQ(x:Int):∀u∈[Value.int .i64 x],u.oneCell'=true:=by exact axF
theorem uj(w:ah)(x:ai)(t:aG):∀j u,[x][j]?=some u->(w.alloc (.cells #[x] t)).cell? ((⟨w.heap.size,0,none⟩:Addr).add j)=some u:=by
 intro j u hj
 match j,hj with
 |0,hj=>simp at hj;subst hj;simp[Addr.add]
theorem xB{w wa w1:ah}{B t t' s s' n n':Nat}{v v':ai}{xs xs':aK}(h:w.ownsRow B t s v n xs)(h':w.ownsRow B t' s' v' n' xs')(ht:t≠t')(ha:Below w.heap.size w wa)(hg:wa.grownBy w1 v.ownBlock):w1.ownsRow B t' s' v' n' xs':=
 qH h' λg um=>(hg.block g (bH (h'.lt g um).2 ha.size) (λe=>x8 h h' ht e.symm um)).trans (ha.block g (h'.lt g um).2)
theorem tJ{w wa w1:ah}{B h0 t s n:Nat}{v:ai}{xs:aK}(h:w.ownsRow B t s v n xs)(hB:B<=w.heap.size)(ha:Below w.heap.size w wa)(hg:wa.grownBy w1 v.ownBlock)(_:h0<=B):Below B w w1:=
 (ha.mono hB).grown hg (bF hB ha.size) (λx hx=>(h.lt x hx).1)
theorem agv(b o j:Nat):(⟨b,o,none⟩:Addr).add j=⟨b,o+j,none⟩:=by
 simp only[Addr.add];split
 .rename_i h;subst h;rfl
 .rfl
def D_(w:ah)(e:rU)(d:aj):Prop:=d.length=e.l/\((e.a=none/\e.l=0/\e.c=0)\/∃ad:Addr,e.a=some ad/\∀j u,(rP d)[j]?=some u->w.cell? (ad.add j)=some u)
theorem D_.below{w w':ah}{e:rU}{d:aj}{B:Nat}(h:D_ w e d)(hb:Below B w w')(hB:w.heap.size<=B):D_ w' e d:=by
 refine⟨h.1,?_⟩;rcases h.2 with h2|⟨ad,h2,h4⟩
 .exact .inl h2
 .exact .inr ⟨ad,h2,λj u hj=>(hb.cell (p:=ad.add j) (bH (rY (h4 j u hj)) hB)).trans (h4 j u hj)⟩
def qM(D:Nat->aj):Nat->aj
 |0=>[]
 |n+1=>qM D n++D n
theorem UK(l:aj):∀u∈rP l,u.oneCell'=true:=by intro u hu;simp[rP]at hu;obtain⟨_,_,rfl⟩:=hu;rfl
theorem Oy(D:Nat->aj){i n:Nat}(h:i<=n):(qM D i).length<=(qM D n).length:=by
 induction n with
 |zero=>obtain rfl:i=0:=by omega
        exact ay _
 |succ n ih=>
  by_cases e:i=n+1
  .rw[e];exact ay _
  .have:=ih ag;simp only[qM,bM];omega
end Go.Proofs.Y
namespace Go.Hp
theorem qX.rot{n p q:Nat}(g:Nat->rU)(hp:p<=q)(hq:q<n):qX n g (λx=>if x=p then g q else if p<x/\x<=q then g (x-1)else g x):=by
 refine⟨λx=>if x=p then q else if p<x/\x<=q then x-1 else x,λx=>if x=q then p else if p<=x/\x<q then x+1 else x,λi hi=>?_,λi hi=>?_⟩
 .dsimp only;refine⟨by split<;>(try split)<;>omega,by split<;>(try split)<;>omega,?_,?_⟩
  .by_cases h1:i=p
   .rw[ax h1,ax rfl,h1]
   .rw[au h1];by_cases h2:p<i/\i<=q
    .rw[ax h2,au ag,ax ag];omega
    .rw[au h2,au ag,au ag]
  .by_cases h1:i=q
   .rw[ax h1,ax rfl,h1]
   .rw[au h1];by_cases h2:p<=i/\i<q
    .rw[ax h2,au ag,ax ag];omega
    .rw[au h2,au ag,au ag]
 .dsimp only;split
  .rfl
  .split<;>rfl
theorem qX.both{h m:Nat}{f L R:Nat->rU}(a:qX h f L)(b:qX m (λi=>f (h+i)) R):qX (h+m) f (λx=>if x<h then L x else R (x-h)):=by
 obtain⟨s,t,h1,h2⟩:=a;obtain⟨s',t',h3,h4⟩:=b;refine⟨λx=>if x<h then s x else h+s' (x-h),λx=>if x<h then t x else h+t' (x-h),λi hi=>?_,λi hi=>?_⟩
 .dsimp only;by_cases hh:i<h
  .obtain⟨q1,q2,q3,q4⟩:=h1 i hh;rw[ax hh,ax hh,ax q1,ax q2];exact⟨ag,ag,q3,q4⟩
  .obtain⟨q1,q2,q3,q4⟩:=h3 (i-h) ag;rw[au hh,au hh,au ag,au ag,iJ,iJ,q3,q4];exact⟨ag,ag,ag,ag⟩
 .dsimp only;by_cases hh:i<h
  .rw[ax hh,ax hh,h2 i hh]
  .rw[au hh,au hh,h4 (i-h) ag]
def Om(n:Nat)(f:Nat->rU):Prop:=∀i,i+1<n->le (f i).k (f (i+1)).k
theorem Om.far{n:Nat}{f:Nat->rU}(h:Om n f):∀d i,i+d<n->le (f i).k (f (i+d)).k
 |0,i,_=>le_refl _
 |d+1,i,hi=>le_trans (h.far d i ag) (h (i+d) ag)
theorem Om.le{n:Nat}{f:Nat->rU}(h:Om n f){i j:Nat}(PV:i<=j)(hj:j<n):Hp.le (f i).k (f j).k:=by have:=h.far (j-i) i ag;rwa[show i+(j-i)=j by omega]at this
def snoc(out:Nat->rU)(p:Nat)(e:rU):Nat->rU:=λx=>if x=p then e else out x
structure MS(h m:Nat)(f L R:Nat->rU)(i j:Nat)(out:Nat->rU):Prop where
 re:qX (h+m) f (λx=>if x<i+j then out x else if x<j+h then L (x-j)else R (x-h))
 so:Om (i+j) out
 lo:0<i+j->∀x,i<=x->x<h->le (out (i+j-1)).k (L x).k
 hi:0<i+j->∀x,j<=x->x<m->le (out (i+j-1)).k (R x).k
theorem MS.start{h m:Nat}{f L R:Nat->rU}(a:qX h f L)(b:qX m (λi=>f (h+i)) R):MS h m f L R 0 0 f:=
 ⟨(a.both b).congr λx hx=>by rw[au (show¬x<0+0 by omega)];simp,λi hi=>absurd hi ag,λh0=>absurd h0 ag,λh0=>absurd h0 ag⟩
theorem Om.snoc{n:Nat}{out:Nat->rU}{e:rU}(h:Om n out)(hl:0<n->Hp.le (out (n-1)).k e.k):Om (n+1) (snoc out n e):=λi hi=>by
 unfold Hp.snoc;rw[au ag];by_cases e':i+1=n
 .rw[ax e'];have:=hl ag;rwa[show n-1=i by omega]at this
 .rw[au e'];exact h i ag
theorem MS.left{h m:Nat}{f L R:Nat->rU}{i j:Nat}{out:Nat->rU}(M:MS h m f L R i j out)(hi:i<h)(hj:j<=m)(hl:Om h L)(hr:Om m R)(hc:j<m->Hp.le (L i).k (R j).k):MS h m f L R (i+1) j (snoc out (i+j) (L i)):=by
 have e:i+1+j=i+j+1:=ag;refine⟨M.re.congr λx hx=>?_,?_,?_,?_⟩
 .unfold snoc;by_cases h1:x<i+j
  .rw[ax h1,ax ag,au ag]
  .rw[au h1];by_cases h2:x=i+j
   .subst h2;rw[ax ag,ax ag,ax rfl,iK]
   .rw[au (show¬x<i+1+j by omega)]
 .rw[e];exact M.so.snoc λh0=>M.lo h0 i (ay _) hi
 .intro _ x hx hxh;unfold snoc;rw[ax ag];exact hl.le ag hxh
 .intro _ x hx hxm;unfold snoc;rw[ax ag];exact le_trans (hc ag) (hr.le hx hxm)
theorem MS.right{h m:Nat}{f L R:Nat->rU}{i j:Nat}{out:Nat->rU}(M:MS h m f L R i j out)(hi:i<h)(hj:j<m)(hl:Om h L)(hr:Om m R)(hc:Hp.le (R j).k (L i).k):MS h m f L R i (j+1) (snoc out (i+j) (R j)):=by
 have e:i+(j+1)=i+j+1:=ag;refine⟨(M.re.trans (qX.rot (p:=i+j) (q:=j+h) _ ag ag)).congr λx hx=>?_,?_,?_,?_⟩
 .unfold snoc;by_cases h1:x=i+j
  .subst h1;rw[ax rfl,au ag,au ag,ax ag,ax rfl]
   congr 1
   omega
  .rw[au h1];by_cases h2:i+j<x/\x<=j+h
   .rw[ax h2,au ag,ax ag,au ag,ax ag]
    congr 1
    omega
   .rw[au h2];by_cases h3:x<i+j
    .rw[ax h3,ax ag,au h1]
    .rw[au h3,au ag,au ag,au ag]
 .rw[e];exact M.so.snoc λh0=>M.hi h0 j (ay _) hj
 .intro _ x hx hxh;unfold snoc;rw[ax ag];exact le_trans hc (hl.le hx hxh)
 .intro _ x hx hxm;unfold snoc;rw[ax ag];exact hr.le ag hxm
theorem MS.done{h m:Nat}{f L R:Nat->rU}{j:Nat}{out:Nat->rU}(M:MS h m f L R h j out)(_hj:j<=m)(hr:Om m R):qX (h+m) f (λx=>if x<h+j then out x else R (x-h))/\Om (h+m) (λx=>if x<h+j then out x else R (x-h)):=by
 refine⟨M.re.congr λx hx=>?_,λi hi=>?_⟩
 .by_cases h1:x<h+j
  .rw[ax h1,ax h1]
  .rw[au h1,au h1,au ag]
 .dsimp only;by_cases h1:i+1<h+j
  .rw[ax h1,ax ag];exact M.so i h1
  .rw[au h1];by_cases h2:i<h+j
   .rw[ax h2];have:=M.hi ag (i+1-h) ag ag;rwa[show h+j-1=i by omega]at this
   .rw[au h2];exact hr.le ag ag
theorem amh{n:Nat}{s:Nat->Nat}(hs:∀i,i<n->s i<n)(hm:∀i,i+1<n->s i<s (i+1)):∀i,i<n->s i=i:=by
 have h1:∀i,i<n->i<=s i:=by
  intro i
  induction i with
  |zero=>intro _;omega
  |succ i ih=>intro hi;have:=ih ag;have:=hm i hi;omega
 have h2:∀d i,i+d+1=n->s i<=i:=by
  intro d
  induction d with
  |zero=>intro i hi;have:=hs i ag;omega
  |succ d ih=>intro i hi;have:=ih (i+1) ag;have:=hm i ag;omega
 intro i hi;have:=h1 i hi;have:=h2 (n-i-1) i ag;omega
theorem acJ{n:Nat}{f g g':Nat->rU}(a:qX n f g)(b:qX n f g')(hg:∀i,i+1<n->lt (g i).k (g (i+1)).k=true)(um:Om n g'):∀i,i<n->g' i=g i:=by
 obtain⟨s,t,h1,h2⟩:=a.symm.trans b
 have far:∀d i,i+d+1<n->lt (g i).k (g (i+d+1)).k=true:=by
  intro d
  induction d with
  |zero=>intro i hi;exact hg i hi
  |succ d ih=>intro i hi;exact lt_trans (ih i ag) (hg (i+d+1) ag)
 have hm:∀i,i+1<n->s i<s (i+1):=by
  intro i hi;rcases auL (s i) (s (i+1))with h|h|h
  .exact h
  .have e1:=(h1 i ag).2.2.1;have e2:=(h1 (i+1) hi).2.2.1;rw[h,e2]at e1;omega
  .have q:=far (s i-s (i+1)-1) (s (i+1)) (by have:=(h1 i ag).1;omega);rw[show s (i+1)+(s i-s (i+1)-1)+1=s i by omega]at q;have:=um i hi;rw[h2 i ag,h2 (i+1) hi]at this;unfold Hp.le at this;rw[this]at q;cases q
 have hid:=amh (λi hi=>(h1 i hi).1) hm;intro i hi;rw[h2 i hi,hid i hi]

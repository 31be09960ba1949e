import Derived.Test.YtnbflnamlpodcaaGreatDoorPrI
import Derived.Test.YtnbflnamlpodcaaGreatDoorShelf
import Derived.Lib.ItoaLen
set_option maxHeartbeats 4000000
set_option maxRecDepth 100000
namespace Go.Proofs.Y
open Go.Proofs.Tryz
open Go.RowKit Go.Deep
def Pow(w:ah):Prop:=Lib.TabIs prog w "internal/strconv.uint64pow10" .u64 Lib.pow10Tab
theorem aeY(w:ah)(k:Nat)(os:Array Obj):Below w.heap.size w (Sort.grow (w.drewN k) os):=
 ⟨rfl,rfl,rfl,ax,λi hi=>by rw[Sort.heap_grow_old _ _ (by exact hi)];rfl⟩
theorem akE(n:Int)(h0:0<=n)(h1:n<=100000)(w:ah)(h:Pow w):
  Calls prog 145 #[.int .i64 n] w λe w'=>(∃s:ByteArray,e=.returned (.string s)/\s.size<=21)/\Below w.heap.size w w':=by
 refine(Any.strconv_Itoa Tryz.lays171 n ag ag w h).mono ?_;rintro e w' ⟨rfl,k,os,rfl⟩;have hl:=Lib.itoa_length_le n ag ag;exact⟨⟨_,rfl,by simpa[ByteArray.size]using hl⟩,aeY w k os⟩
section
variable (B lb b off ct:Nat)(u:ak)(pl a:Nat)(vN vS:ai)(ns:List (ak))(zs:aA)(Nv:lb<B)(Tv:b<B)(Ns:lb≠b)(hu:u.length<=1000000)(BD:u.length<ct)(ha:a<=u.length)(vY:pl<=1000000000000)(hns:ns.length<1000)(hzl:zs.length=ns.length)(hzs:zs.sum<=65536)(w:ah)(I:LsI B w lb b off ct u pl a vN vS ns zs)
include Nv Tv Ns hu BD ha vY hns hzl hzs I in
theorem aaw:Calls prog 144 #[.pointer (some ⟨lb,0,none⟩)] w λq w'=>Ha B w lb b off ct u pl a ns zs q w':=by
 by_cases q1:u.length<a+6\/le u a 2<1\/255<le u a 2\/u.length<a+6+le u a 2
 .refine(aet B lb b off ct u pl a vN vS ns zs hu BD ha vY w I q1).mono λq w' h=>?_
  unfold Ha x9;rw[ay q1];exact h
 .by_cases q2:0<ns.length/\vO (part u (a+2) (le u a 2)) (ns.getD (ns.length-1) [])=true
  .refine(aeu B lb b off ct u pl a vN vS ns zs hu BD ha vY hns w I (le u a 2) rfl ag ag ag _ rfl q2.1 q2.2).mono λq w' h=>?_
   unfold Ha x9;rw[au q1,ay q2];exact h
  .have q2':0<ns.length->vO (part u (a+2) (le u a 2)) (ns.getD (ns.length-1) [])=false:=λh=>by
    cases hh:vO (part u (a+2) (le u a 2)) (ns.getD (ns.length-1) [])with
    |false=>rfl
    |true=>exact absurd ⟨h,hh⟩ q2
   by_cases q3:65536<zs.sum+le u (a+2+le u a 2) 4
   .refine(aev B lb b off ct u pl a vN vS ns zs hu BD ha vY hns hzs w I (le u a 2) rfl ag ag ag _ rfl _ rfl q3 q2').mono λq w' h=>?_
    unfold Ha x9;rw[au q1,au q2,ay q3];have e:a+2+le u a 2=a+(2+le u a 2):=ag;simp only;rw[e];exact h
   .refine(aew B lb b off ct u pl a vN vS ns zs Nv Tv Ns hu BD ha vY hns hzl hzs w I (le u a 2) rfl ag ag ag _ rfl _ rfl ag q2').mono λq w' h=>?_
    unfold Ha x9;rw[au q1,au q2,au q3];exact h
end
theorem Pow.but{w w':ah}{B:Nat}{S:Nat->Prop}(h:Pow w)(hb:rQ B S w w')(hB:∀k,k<5->k<B/\¬S k):Pow w':=by
 have hg:∃g,g<5/\prog.globalNamed "internal/strconv.uint64pow10" =some g:=by exact⟨4,aC,aj⟩
 obtain⟨g,ar5,hg⟩:=hg;unfold Pow Lib.TabIs World.var? at h⊢;rw[hg]at h⊢;simp only[gK]at h⊢;rw[hb.block g (hB g ar5).1 (hB g ar5).2];exact h
def PQ(B:Nat)(w:ah)(lb b off ct:Nat)(u:ak)(pl:Nat)(q:Ending)(w':ah):Prop:=
 rQ B (· =lb) w w'/\match AB u with
 | .error p=>∃v d,d<=1/\q=.returned v/\sV w' d v 7 (pl+p)
 | .ok (ns,zs)=>q=.returned .nilIface/\∃vN vS a,LsI B w' lb b off ct u pl a vN vS ns zs
section
variable (B lb b off ct:Nat)(u:ak)(pl:Nat)(Nv:lb<B)(Tv:b<B)(Ns:lb≠b)(hu4:4<=u.length)(hu:u.length<=1000000)(BD:u.length<ct)(vY:pl<=1000000000000)(w:ah)(I:LsI B w lb b off ct u pl 0 (.slice none 0 0) (.slice none 0 0) [] [])(hP:Pow w)(atK:5<=lb)
include Nv Tv Ns hu4 hu BD vY I hP atK in
theorem Q_:Calls prog 137 #[.pointer (some ⟨lb,0,none⟩)] w λq w'=>PQ B w lb b off ct u pl q w':=by
 have c0:=ql.cell I.ls (i:=0) rfl;have c2:=ql.cell I.ls (i:=2) rfl;have f2:=ql.frozen I.ls 2;have e4:(part u 0 4).length=4:=qN ag
 have LZ:le (part u 0 4) 0 4=le u 0 4:=by simp only[le];rw[vI ag,vI ag,vI ag,vI ag]
 have K4:=λcap=>xy b off 4 cap (part u 0 4) e4 ag w (by have:=I.IU.part (a:=0) (n:=4) ag;exact this)
 rw[LZ]at K4;have atL:le u 0 4<2^32:=SY u 4 0;obtain⟨N,eN⟩:∃N,le u 0 4=N:=⟨_,rfl⟩;rw[eN]at K4 atL;by_cases q1:1000<N
 .have HL:Hid (AB u=.error 0):=by show _=_;unfold AB;rw[eN,ay q1]
  have KW:=B_ lb _ pl 0 _ _ _ vY ag w I.ls 0 0 pl rfl ag ag;clear e4 LZ eN;go_enter func137,ntmps137
  go_wp2_with(first|(go_at_call 141;refine(K4 _).mono ?_;rintro q w' ⟨rfl,uf⟩;obtain rfl:=uf.symm)|(go_at_call 143;refine KW.mono ?_;rintro q w2 ⟨v,rfl,g1,g2⟩))
  go_ret;refine⟨(rQ.qF g2).mono I.size (λ_ x=>x),?_⟩;rw[HL.out];exact⟨_,0,ag,rfl,g1⟩
 .have HL:Hid (AB u=zO u N 4 [] []):=by show _=_;unfold AB;rw[eN,au q1]
  have J0:LsJ B w w lb b off ct u pl 0 (.slice none 0 0) (.slice none 0 0) [] [] 0:=⟨I.ls,I.on,I.os,I.ap,I.IU,I.size,rQ.refl _ _ _⟩;have J1:=J0.akF Nv Tv Ns 4;clear J0 I e4 LZ eN;go_enter func137,ntmps137
  go_wp2_with(first|(go_at_call 141;refine(K4 _).mono ?_;rintro q w' ⟨rfl,uf⟩;obtain rfl:=uf.symm))
  have J2:LsJ B w (w.setCell ⟨lb,2,none⟩ (.int .i64 4)) lb b off ct u pl 4 (.slice none 0 0) (.slice none 0 0) [] [] 0:=J1;clear J1 K4 c0 c2 f2;generalize w.setCell ⟨lb,2,none⟩ (.int .i64 4)=w1 at J2⊢
  go_loopw [21] (λvi wr=>∃(c a:Nat)(ns:List (ak))(zs:aA)(vN vS:ai),c<=N/\a<=u.length/\vi=.int .i64 (c:Int)/\Hid (ns.length=c)/\Hid (zs.length=ns.length)/\Hid (zs.sum<=65536)/\LsI B wr lb b off ct u pl a vN vS ns zs/\rQ B (· =lb) w wr/\Hid (AB u=zO u (N-c) a ns zs)) (λi _=>N-(intOf i).toNat)
  case atStart=>exact⟨0,4,[],[],_,_,ag,hu4,rfl,rfl,rfl,(show([]:aA).sum<=65536 by simp),⟨J2.ls,J2.on,J2.os,J2.ap,J2.IU,J2.size⟩,J2.but,HL⟩
  case round=>
   obtain⟨c,a,ns,zs,vN,vS,hc,ha,rfl,H1,H2,H3,I,hb,HR⟩:=hrel;clear J2 HL;have hPr:Pow wr:=hP.but hb (λk hk=>⟨ag,ag⟩);by_cases qK:c<N
   .have K:=aaw B lb b off ct u pl a vN vS ns zs Nv Tv Ns hu BD ha vY (by rw[H1.out];omega) H2.out H3.out wr I;unfold Ha at K
    have HR2:Hid (AB u=match x9 u a ns zs with| .error p=>.error p| .ok (nm,z)=>zO u (N-(c+1)) (a+(6+nm.length)) (ns++[nm]) (zs++[z])):=by
     show _=_;rw[HR.out,show N-c=(N-(c+1))+1 by omega,zO]
     all_goals rfl
    cases L_:x9 u a ns zs with
    |error p=>
     rw[L_]at K HR2;simp only at K HR2;have hsz:=I.size;clear HR I L_
     go_wp2_with(first|(go_at_call 144;refine K.mono ?_;rintro q w2 ⟨v,rfl,g1,g2⟩;have hP2:=hPr.but (S:=λ_=>False) (.qF g2) (λk hk=>⟨ag,id⟩);obtain⟨ty,x,rfl⟩:=g1.iface)|(go_at_call 145;refine(akE _ ag ag _ (by exact hP2)).mono ?_;rintro q w3 ⟨⟨s3,rfl,xI⟩,g3⟩;have g4:=g1.under g3)|(go_at_call 37;refine(yU _ 0 _ 7 (pl+p) _ (by exact g4)).mono ?_;rintro q w5 ⟨v5,rfl,g5,g6⟩))
     go_ret;have h2s:=g2.size;have h3s:=g3.size;refine⟨hb.trans ((rQ.qF (g2.mono hsz)).trans ((rQ.qF (g3.mono ag)).trans (.qF (g6.mono ag)))),?_⟩;rw[HR2.out];exact⟨_,1,ag,rfl,g5⟩
    |ok x=>
     obtain⟨nm,z⟩:=x;rw[L_]at K HR2;simp only at K HR2;have uu:=L_;unfold x9 at uu
     have hsum:zs.sum+z<=65536/\a+(6+nm.length)<=u.length:=by
      split at uu
      .cases uu
      .split at uu
       .cases uu
       .split at uu
        .cases uu
        .cases uu;refine⟨ag,?_⟩;rw[qN ag];omega
     have HS:Hid (zs.sum+z<=65536):=hsum.1;have ha2:=hsum.2;clear HR I L_ uu hsum H3
     go_wp2_with(first|(go_at_call 144;refine K.mono ?_;rintro q w2 ⟨rfl,g1,vN2,vS2,g2⟩))
     go_roundw
     case rel=>exact⟨c+1,_,ns++[nm],zs++[z],vN2,vS2,ag,ha2,bU,(show(ns++[nm]).length=c+1 by rw[bK,H1.out];rfl),(show(zs++[z]).length=(ns++[nm]).length by rw[bK,bK,H2.out];rfl),(show(zs++[z]).sum<=65536 by rw[iU];have:=HS.out;simpa using this),g2,hb.trans g1,HR2⟩
     case measure=>simp[intOf];omega
   .obtain rfl:c=N:=ag
    have HR2:Hid (AB u=if a<u.length then .error a else .ok (ns,zs)):=by show _=_;rw[HR.out,lL,zO]
    have c0:=ql.cell I.ls (i:=0) rfl;have c2:=ql.cell I.ls (i:=2) rfl;have KW:=λn=>B_ lb _ pl a _ _ _ vY ag (wr.drewN n) (I.ls.drewN n) 0 0 (pl+a) rfl ag ag
    have hsz:=I.size;by_cases q2:a<u.length
    .have HX:Hid (AB u=.error a):=by show _=_;rw[HR2.out,ay q2]
     clear HR HR2 I
     go_wp2_with fail
     go_big_quiet (fail)
     go_wp2_with(first|(go_at_call 143;refine(KW _).mono ?_;rintro q w2 ⟨v,rfl,g1,g2⟩))
     go_ret;have g3:Below wr.heap.size wr w2:=⟨g2.os,g2.tape,g2.output,g2.size,g2.block⟩;refine⟨hb.trans (.qF (g3.mono hsz)),?_⟩;rw[HX.out];exact⟨_,0,ag,rfl,g1⟩
    .have HX:Hid (AB u=.ok (ns,zs)):=by show _=_;rw[HR2.out,au q2]
     have I':=λn=>I.drewN n
     clear HR HR2 KW I
     go_wp2_with fail
     go_big_quiet (fail)
     go_wp2;go_ret;refine⟨hb.drewN _,?_⟩;rw[HX.out];exact⟨rfl,vN,vS,a,I' _⟩
end
theorem BX{w:ah}{B B' e n:Nat}{v:ai}{xs:aK}(h:w.ownsRow B' e 1 v n xs)(hB:B<=B'):w.ownsRow B e 1 v n xs:=by
 refine⟨h.1,?_⟩;rcases h.2 with x|⟨g,cap,cur,e1,h1,h2⟩
 .exact .inl x
 .exact .inr ⟨g,cap,cur,e1,bu hB h1,h2⟩
theorem RI.lists{B rb:Nat}{w:ah}{s:St}{t:ak}{vN vS vC vT VB VC:ai}{ns:List (ak)}{zs:aA}(I:RI B w rb s t vN vS vC vT)(hn:w.ownsRow B 9 1 VB ns.length (DT ns))(hs:w.ownsRow B 3 1 VC zs.length (zV zs))(tt:Nat):
  RI B (((w.setCell ⟨rb,4,none⟩ VB).setCell ⟨rb,5,none⟩ VC).setCell ⟨rb,9,none⟩ (.int .i64 (tt:Int))) rb {s with ns:=ns,zs:=zs,tt:=tt} t VB VC vC vT/\rQ w.heap.size (· =rb) w (((w.setCell ⟨rb,4,none⟩ VB).setCell ⟨rb,5,none⟩ VC).setCell ⟨rb,9,none⟩ (.int .i64 (tt:Int))):=by
 have hB:rQ w.heap.size (· =rb) w (((w.setCell ⟨rb,4,none⟩ VB).setCell ⟨rb,5,none⟩ VC).setCell ⟨rb,9,none⟩ (.int .i64 (tt:Int))):=(((rQ.refl w.heap.size (· =rb) w).setCell (p:=⟨rb,4,none⟩) (.inr rfl) VB).setCell (p:=⟨rb,5,none⟩) (.inr rfl) VC).setCell (p:=⟨rb,9,none⟩) (.inr rfl) _;have key:∀{e n:Nat}{v:ai}{xs:aK},w.ownsRow B e 1 v n xs->e≠122->(((w.setCell ⟨rb,4,none⟩ VB).setCell ⟨rb,5,none⟩ VC).setCell ⟨rb,9,none⟩ (.int .i64 (tt:Int))).ownsRow B e 1 v n xs:=λh he=>vU h (λg uO=>hB.block g (h.lt g uO).2 (λe=>uM h I.rd he (by rw[uO,e])))
 have hR:yw (((w.setCell ⟨rb,4,none⟩ VB).setCell ⟨rb,5,none⟩ VC).setCell ⟨rb,9,none⟩ (.int .i64 (tt:Int))) rb (({s with ns:=ns,zs:=zs,tt:=tt}:St).rd VB VC vC vT .nilIface):=((ql.set I.rd 4 VB).set 5 VC).set 9 (.int .i64 (tt:Int));exact⟨⟨hR,key hn aC,key hs aC,key I.oc aC,key I.ot aC,I.ap,bu I.size hB.size⟩,hB⟩
theorem RI.ap8{B rb:Nat}{w w1:ah}{s:St}{t:ak}{vN vS vC vT v1:ai}(I:RI B w rb s t vN vS vC vT)(hb:Below w.heap.size w w1)(h1:rO B w1 v1 [])(hk:v1.ownBlock=some w.heap.size):
  RI B (w1.setCell ⟨rb,6,none⟩ v1) rb {s with qH:=[]} t vN vS v1 vT/\rQ w.heap.size (· =rb) w (w1.setCell ⟨rb,6,none⟩ v1)/\w1.cell? ⟨rb,6,none⟩=some vC/\w1.frozen? ⟨rb,6,none⟩=false:=by
 have I1:=I.below hb;have Fz:yw (w1.setCell ⟨rb,6,none⟩ v1) rb (({s with qH:=[]}:St).rd vN vS v1 vT .nilIface):=ql.set I1.rd 6 v1;refine⟨⟨Fz,uZ I1.on (uM I1.on I1.rd aC),uZ I1.os (uM I1.os I1.rd aC),uZ h1 (uM h1 I1.rd aC),uZ I1.ot (uM I1.ot I1.rd aC),?_,?_⟩,?_,ql.cell I1.rd (i:=6) rfl,ql.frozen I1.rd 6⟩
 .intro g Tf Ue;have h2:=(gJ I.ot g Ue).2;rw[hk]at Tf;cases Tf;omega
 .have:=I1.size;exact ayh
 .exact rQ.setCell (S:=(· =rb)) (rQ.qF hb) (p:=⟨rb,6,none⟩) (.inr rfl) v1
section
variable (B rb:Nat)(s:St)(t:ak)(vN vS vC vT:ai)(hb:Bd s)(ht:t.length<=s.sz)(w:ah)(I:RI B w rb s t vN vS vC vT)(uY:Du w)(hPow:Pow w)(h16:5<=w.heap.size)
include hb ht I uY hPow h16 in
theorem Rf(Ox:s.nx=1)(KP:1<=s.k)(P7:s.k<=128)(hm4:4<=s.m):Calls prog 131 #[.pointer (some ⟨rb,0,none⟩)] w λq w'=>uz B w rb s t vN vS vC vT (VU s t) 1 q w':=by
 obtain⟨bc,cc,eC,hcc⟩:=I.oc.slice;obtain⟨bt,ct,eT,BD⟩:=I.ot.slice;have hz:=St.YT hb;have KS:=Kv rb (s.rd vN vS vC vT .nilIface) bc s.qH.length cc eC ng nz ni hb.qH ou t bt ct eT ag m_ w I.rd I.ot.lies uY;have hsz:yT s.nx s.c s.m s.ln s.qH.length=s.sz:=rfl;simp only[St.rd,hsz]at KS;have hSP:Nh s.sz s.pl t=zg s t:=rfl;simp only[hSP]at KS;unfold VU;cases WI:zg s t with
 |some e=>
  unfold zT at KS;rw[WI]at KS;simp only at KS⊢;clear WI;go_enter func131,ntmps131
  go_wp2_with(first|(go_at_call 135;refine KS.mono ?_;rintro q w2 ⟨v,rfl,g1,g2⟩;obtain⟨ty,x,rfl⟩:=g1.iface))
  go_ret;exact uz.fault I (gY _) g1 g2
 |none=>
  unfold zT at KS;rw[WI]at KS;simp only at KS⊢;have xA:=sz1 Ox
  have hl8:t.length=s.sz:=by
   unfold zg at WI;split at WI
   .cases WI
   .omega
  obtain⟨b,off,ebt,hB,hbr⟩:∃b off,bt=some ⟨b,off,none⟩/\Dv w b off t/\b≠rb:=by exact azK
  subst ebt;have em:t.length-8=s.m:=ag;have hu:(part t 0 s.m).length=s.m:=qN ag;have hBu:Dv w b off (part t 0 s.m):=by have:=hB.part (a:=0) (n:=s.m) ag;exact this
  rw[em]at KS⊢;have vY:=hb.pl;have hm:=hb.m;have Uz:=ql.cell I.rd (i:=11) rfl;simp only[St.rd]at Uz;obtain⟨pl,XJ⟩:∃pl,s.pl=pl:=⟨_,rfl⟩;obtain⟨m,emm⟩:∃m,s.m=m:=⟨_,rfl⟩;obtain⟨u,eu⟩:∃u,part t 0 s.m=u:=⟨_,rfl⟩;rw[eu]at hu hBu⊢;rw[XJ]at Uz vY⊢;rw[emm]at KS hu hm hm4;clear WI hl8 hsz hSP;have aoa:∀j,Pow (w.drewN j):=λj=>hPow.but (S:=λ_=>False) (B:=w.heap.size) ((rQ.refl _ _ _).drewN j) (λk hk=>⟨ag,id⟩)
  have facts:∀j w2,w2=w.drewN j->RI B w2 rb s t vN vS vC vT/\w2.cell? ⟨rb,11,none⟩=some (.int .i64 (pl:Int))/\Pow w2/\5<=w2.heap.size/\rQ w.heap.size (λ_=>False) w w2/\Dv w2 b off u/\w.heap.size=w2.heap.size:=by rintro j w2 rfl;exact⟨I.drewN j,by simpa using Uz,aoa j,h16,(rQ.refl _ _ _).drewN j,hBu,rfl⟩
  clear aoa Uz hBu hPow uY;cases hL:AB u with
  |error p=>
   simp only;go_enter func131,ntmps131
   go_upto_region 5 with(first|(go_at_call 135;refine KS.mono ?_;rintro q w2 ⟨rfl,j,yf⟩;obtain⟨I2,Uz,hP2,akG,tX,Ap,zU⟩:=facts j w2 yf;have HS2:Hid (w.heap.size=w2.heap.size):=zU;clear yf zU facts I hB KS))
   have Qn:=(aT w2.heap.size w2).alloc (az _) (.cells (lsL (.slice (some ⟨b,off,none⟩) m ct) pl 0 (.slice none 0 0) (.slice none 0 0) 0).toArray 222);have WU:Eh (w2.alloc (.cells (lsL (.slice (some ⟨b,off,none⟩) m ct) pl 0 (.slice none 0 0) (.slice none 0 0) 0).toArray 222)) w2.heap.size (.slice (some ⟨b,off,none⟩) m ct) pl 0 (.slice none 0 0) (.slice none 0 0) 0:=ql.made w2 _ _;have xI:w2.heap.size<(w2.alloc (.cells (lsL (.slice (some ⟨b,off,none⟩) m ct) pl 0 (.slice none 0 0) (.slice none 0 0) 0).toArray 222)).heap.size:=ax;have L_:b<w2.heap.size:=rG (Ap 0 ag);unfold lsL at Qn WU xI;generalize Qo:w2.alloc _=w3 at Qn WU xI⊢;clear Qo;have Ov:Dv w3 b off u:=Ap.later (S:=λ_=>False) (.qF Qn) L_ id;have hP3:Pow w3:=hP2.but (S:=λ_=>False) (.qF Qn) (λk hk=>⟨ag,id⟩);rw[<-hu]at WU;have LI:LsI w3.heap.size w3 w2.heap.size b off ct u pl 0 (.slice none 0 0) (.slice none 0 0) [] []:=⟨WU,dK _ _ _ _,dK _ _ _ _,λg hg=>avI,Ov,az _⟩;have KL:=Q_ w3.heap.size w2.heap.size b off ct u pl xI ag ag ag ag ag ag w3 LI hP3 akG;unfold PQ at KL;have KZ:∀w4,rQ w3.heap.size (· =w2.heap.size) w3 w4->Below w2.heap.size w2 w4:=λw4 h=>Qn.trans ⟨h.os,h.tape,h.output,h.size,λk hk=>h.block k ag ag⟩
   have hfw:∀w4,Below w2.heap.size w2 w4->Below w.heap.size w w4:=λw4 h=>(tX.below (λ_ _=>id)).trans (h.mono awP)
   rw[hL]at KL;simp only at KL;have HLZ:=HS2;clear hL LI WU
   go_wp2_with(first|(go_at_call 137;refine KL.mono ?_;rintro q w4 ⟨g1,v,d,hd,rfl,g2⟩;obtain⟨ty,x,rfl⟩:=g2.iface))
   go_ret;have I4:=I2.below (KZ _ g1);exact⟨.qF (hfw _ (KZ _ g1)),⟨_,d,hd,rfl,g2⟩,⟨_,I4.rd⟩,λh=>f_⟩
  |ok x=>
   obtain⟨ns,zs⟩:=x;simp only
   have ar6:Hid (zs.sum<=65536):=by
    show _<=_;unfold AB at hL;split at hL
    .cases hL
    .exact LM _ _ _ _ _ ax hL
   by_cases qn:s.ln=ug s.k zs.sum
   .rw[ay qn];go_enter func131,ntmps131
    go_upto_region 5 with(first|(go_at_call 135;refine KS.mono ?_;rintro q w2 ⟨rfl,j,yf⟩;obtain⟨I2,Uz,hP2,akG,tX,Ap,zU⟩:=facts j w2 yf;have HS2:Hid (w.heap.size=w2.heap.size):=zU;clear yf zU facts I hB KS))
    have Qn:=(aT w2.heap.size w2).alloc (az _) (.cells (lsL (.slice (some ⟨b,off,none⟩) m ct) pl 0 (.slice none 0 0) (.slice none 0 0) 0).toArray 222);have WU:Eh (w2.alloc (.cells (lsL (.slice (some ⟨b,off,none⟩) m ct) pl 0 (.slice none 0 0) (.slice none 0 0) 0).toArray 222)) w2.heap.size (.slice (some ⟨b,off,none⟩) m ct) pl 0 (.slice none 0 0) (.slice none 0 0) 0:=ql.made w2 _ _;have xI:w2.heap.size<(w2.alloc (.cells (lsL (.slice (some ⟨b,off,none⟩) m ct) pl 0 (.slice none 0 0) (.slice none 0 0) 0).toArray 222)).heap.size:=ax;have L_:b<w2.heap.size:=rG (Ap 0 ag);unfold lsL at Qn WU xI;generalize Qo:w2.alloc _=w3 at Qn WU xI⊢;clear Qo;have Ov:Dv w3 b off u:=Ap.later (S:=λ_=>False) (.qF Qn) L_ id;have hP3:Pow w3:=hP2.but (S:=λ_=>False) (.qF Qn) (λk hk=>⟨ag,id⟩);rw[<-hu]at WU;have LI:LsI w3.heap.size w3 w2.heap.size b off ct u pl 0 (.slice none 0 0) (.slice none 0 0) [] []:=⟨WU,dK _ _ _ _,dK _ _ _ _,λg hg=>avI,Ov,az _⟩;have KL:=Q_ w3.heap.size w2.heap.size b off ct u pl xI ag ag ag ag ag ag w3 LI hP3 akG;unfold PQ at KL;have KZ:∀w4,rQ w3.heap.size (· =w2.heap.size) w3 w4->Below w2.heap.size w2 w4:=λw4 h=>Qn.trans ⟨h.os,h.tape,h.output,h.size,λk hk=>h.block k ag ag⟩
    have hfw:∀w4,Below w2.heap.size w2 w4->Below w.heap.size w w4:=λw4 h=>(tX.below (λ_ _=>id)).trans (h.mono awP)
    rw[hL]at KL;simp only at KL;clear hL LI WU
    go_upto_region 8 with(first|(go_at_call 137;refine KL.mono ?_;rintro q w4 ⟨g1,rfl,vN2,vS2,a2,g2⟩))
    have I4:=I2.below (KZ _ g1);have IM:=hfw _ (KZ _ g1);have d3:=ql.cell g2.ls (i:=3) rfl;have d4:=ql.cell g2.ls (i:=4) rfl;have d5:=ql.cell g2.ls (i:=5) rfl;have c4:=ql.cell I4.rd (i:=4) rfl;have c5:=ql.cell I4.rd (i:=5) rfl;have c9:=ql.cell I4.rd (i:=9) rfl;have f0:=ql.frozen I4.rd;obtain⟨bn,cn,en⟩:=uF g2.on;obtain⟨bz,cz,ez⟩:=uF g2.os;subst en ez
    go_upto_region 9 with(fail)
    obtain⟨I5,hB5⟩:=I4.lists (BX g2.on avD) (BX g2.os avD) zs.sum;have hB6:rQ w.heap.size (qZ rb vC vT) w _:=(rQ.qF IM).trans (hB5.mono IM.size (λ_ x=>.inl x));clear d3 d4 d5 c4 c5 c9 f0 I4 hB5;generalize(((w4.setCell ⟨rb,4,none⟩ (.slice bn ns.length cn)).setCell ⟨rb,5,none⟩ (.slice bz zs.length cz)).setCell ⟨rb,9,none⟩ (.int .i64 (zs.sum:Nat)))=w5 at I5 hB6⊢;have c0:=ql.cell I5.rd (i:=0) rfl;have c8:=ql.cell I5.rd (i:=8) rfl;have c9:=ql.cell I5.rd (i:=9) rfl;simp only[St.rd]at c0 c8 c9;have Me:=hb.ln;have KC:=λj=>FP (s.k:Int) (zs.sum:Int) s.k zs.sum rfl rfl KP ag ar6.out (w5.drewN j)
    obtain⟨Z,eZ⟩:∃Z,zs.sum=Z:=⟨_,rfl⟩;obtain⟨LN,eLN⟩:∃LN,s.ln=LN:=⟨_,rfl⟩;rw[eZ]at c9 KC;rw[eLN]at c8 Me;obtain⟨LC,eLC⟩:∃LC,ug s.k Z=LC:=⟨_,rfl⟩;simp only[eLC]at KC;have HZ:Hid (zs.sum=Z):=eZ;obtain rfl:LN=LC:=by rw[<-eLN,qn,eZ,eLC]
    clear eZ eLC qn
    go_wp2_with fail
    go_big_quiet (first|(go_at_call 77;exact(KC _).mono (λ_ _ h=>⟨h.1,_,h.2⟩)))
    obtain⟨i0,Ak,yz,atM,atN⟩:=dm BJ;obtain⟨w6,Y_,ho6,hg6⟩:=run_make_own (P:=prog) (w5.drewN nq) B 34 5 i0 (.int .u8 0) 1 underlying34 Ak yz atM .i64 .i64 LN (by rw[atN];omega) dB I5.size;have hb6:Below w5.heap.size w5 w6:=yV ((aT (w5.drewN nq).heap.size (w5.drewN nq)).grown hg6 (az _) (λk hk=>by cases hk));obtain⟨I6,hB7,x6,f6⟩:=I5.ap8 hb6 (rO.of ho6) rfl;go_wp2;subst emm eLN XJ;rw[Ox]at I6;rw[<-eC,<-eT];go_ret;refine⟨hB6.trans (hB7.mono hB6.size (λ_ x=>.inl x)),rfl,_,_,_,I6,.inr ⟨_,rfl,hB6.size⟩⟩
   .rw[au qn];go_enter func131,ntmps131
    go_upto_region 5 with(first|(go_at_call 135;refine KS.mono ?_;rintro q w2 ⟨rfl,j,yf⟩;obtain⟨I2,Uz,hP2,akG,tX,Ap,zU⟩:=facts j w2 yf;have HS2:Hid (w.heap.size=w2.heap.size):=zU;clear yf zU facts I hB KS))
    have Qn:=(aT w2.heap.size w2).alloc (az _) (.cells (lsL (.slice (some ⟨b,off,none⟩) m ct) pl 0 (.slice none 0 0) (.slice none 0 0) 0).toArray 222);have WU:Eh (w2.alloc (.cells (lsL (.slice (some ⟨b,off,none⟩) m ct) pl 0 (.slice none 0 0) (.slice none 0 0) 0).toArray 222)) w2.heap.size (.slice (some ⟨b,off,none⟩) m ct) pl 0 (.slice none 0 0) (.slice none 0 0) 0:=ql.made w2 _ _;have xI:w2.heap.size<(w2.alloc (.cells (lsL (.slice (some ⟨b,off,none⟩) m ct) pl 0 (.slice none 0 0) (.slice none 0 0) 0).toArray 222)).heap.size:=ax;have L_:b<w2.heap.size:=rG (Ap 0 ag);unfold lsL at Qn WU xI;generalize Qo:w2.alloc _=w3 at Qn WU xI⊢;clear Qo;have Ov:Dv w3 b off u:=Ap.later (S:=λ_=>False) (.qF Qn) L_ id;have hP3:Pow w3:=hP2.but (S:=λ_=>False) (.qF Qn) (λk hk=>⟨ag,id⟩);rw[<-hu]at WU;have LI:LsI w3.heap.size w3 w2.heap.size b off ct u pl 0 (.slice none 0 0) (.slice none 0 0) [] []:=⟨WU,dK _ _ _ _,dK _ _ _ _,λg hg=>avI,Ov,az _⟩;have KL:=Q_ w3.heap.size w2.heap.size b off ct u pl xI ag ag ag ag ag ag w3 LI hP3 akG;unfold PQ at KL;have KZ:∀w4,rQ w3.heap.size (· =w2.heap.size) w3 w4->Below w2.heap.size w2 w4:=λw4 h=>Qn.trans ⟨h.os,h.tape,h.output,h.size,λk hk=>h.block k ag ag⟩
    have hfw:∀w4,Below w2.heap.size w2 w4->Below w.heap.size w w4:=λw4 h=>(tX.below (λ_ _=>id)).trans (h.mono awP)
    rw[hL]at KL;simp only at KL;clear hL LI WU
    go_upto_region 8 with(first|(go_at_call 137;refine KL.mono ?_;rintro q w4 ⟨g1,rfl,vN2,vS2,a2,g2⟩))
    have I4:=I2.below (KZ _ g1);have IM:=hfw _ (KZ _ g1);have d3:=ql.cell g2.ls (i:=3) rfl;have d4:=ql.cell g2.ls (i:=4) rfl;have d5:=ql.cell g2.ls (i:=5) rfl;have c4:=ql.cell I4.rd (i:=4) rfl;have c5:=ql.cell I4.rd (i:=5) rfl;have c9:=ql.cell I4.rd (i:=9) rfl;have f0:=ql.frozen I4.rd;obtain⟨bn,cn,en⟩:=uF g2.on;obtain⟨bz,cz,ez⟩:=uF g2.os;subst en ez
    go_upto_region 9 with(fail)
    obtain⟨I5,hB5⟩:=I4.lists (BX g2.on avD) (BX g2.os avD) zs.sum;have hB6:rQ w.heap.size (qZ rb vC vT) w _:=(rQ.qF IM).trans (hB5.mono IM.size (λ_ x=>.inl x));clear d3 d4 d5 c4 c5 c9 f0 I4 hB5;generalize(((w4.setCell ⟨rb,4,none⟩ (.slice bn ns.length cn)).setCell ⟨rb,5,none⟩ (.slice bz zs.length cz)).setCell ⟨rb,9,none⟩ (.int .i64 (zs.sum:Nat)))=w5 at I5 hB6⊢;have c0:=ql.cell I5.rd (i:=0) rfl;have c8:=ql.cell I5.rd (i:=8) rfl;have c9:=ql.cell I5.rd (i:=9) rfl;simp only[St.rd]at c0 c8 c9;have Me:=hb.ln;have KC:=λj=>FP (s.k:Int) (zs.sum:Int) s.k zs.sum rfl rfl KP ag ar6.out (w5.drewN j)
    obtain⟨Z,eZ⟩:∃Z,zs.sum=Z:=⟨_,rfl⟩;obtain⟨LN,eLN⟩:∃LN,s.ln=LN:=⟨_,rfl⟩;rw[eZ]at c9 KC;rw[eLN]at c8 Me;obtain⟨LC,eLC⟩:∃LC,ug s.k Z=LC:=⟨_,rfl⟩;simp only[eLC]at KC;have HZ:Hid (zs.sum=Z):=eZ
    have hne:((LN:Int)==(LC:Int))=false:=by
     have:LN≠LC:=λe=>qn (by rw[eLN,e,<-eLC,<-eZ])
     simp;omega
    have avb:((LN:Int) != (LC:Int))=true:=by
     have:LN≠LC:=λe=>qn (by rw[eLN,e,<-eLC,<-eZ])
     simp;omega
    clear eZ eLC qn
    go_wp2_with fail
    go_big_quiet (first|(go_at_call 77;exact(KC _).mono (λ_ _ h=>⟨h.1,_,h.2⟩)))
    go_wp2_with(first|(go_at_call 64;refine(A8 _ _ 7 18 aI aI _).mono ?_;rintro q w7 ⟨v,rfl,h1,h2⟩))
    go_ret;have h3:=yV h2;exact⟨hB6.trans (.qF (h3.mono hB6.size)),⟨_,0,gY _,rfl,h1⟩,⟨_,(I5.below h3).rd⟩,λh=>f_⟩
end
structure Fit(s:St):Prop where
 bd:Bd s
 nx:s.nx<=3
 k:s.nx≠0->1<=s.k/\s.k<=128/\s.i<=128/\4<=s.m
 tt:2<=s.nx->s.tt<=65536
theorem wZ{w w' w'':ah}{S:Nat->Prop}(h:rQ w.heap.size S w w')(hb:Below w'.heap.size w' w''):rQ w.heap.size S w w'':=h.trans (.qF (hb.mono h.size))
section
variable (B rb:Nat)(s:St)(t:ak)(vN vS vC vT:ai)(hF:Fit s)(ht:t.length<=s.sz)(w:ah)(I:RI B w rb s t vN vS vC vT)(uY:Du w)(hPow:Pow w)(h16:5<=w.heap.size)
include hF ht I uY hPow h16 in
theorem YU:Calls prog 122 #[.pointer (some ⟨rb,0,none⟩)] w λq w'=>uz B w rb s t vN vS vC vT (vK s t) 2 q w':=by
 have hb:=hF.bd;have XY:=ql.cell I.rd (i:=10) rfl;simp only[St.rd]at XY;have Ox:=hF.nx;have hfk:=hF.k;have hft:=hF.tt;have h4:s.nx=0\/s.nx=1\/s.nx=2\/s.nx=3:=ag;rcases h4 with e0|e0|e0|e0
 .have K:=aax B rb s t vN vS vC vT hb ht w I uY e0;have HP:Hid (vK s t=Kr s t):=by show _=_;unfold vK;rw[ay e0]
  rw[HP.out];rw[e0]at XY;clear hfk hft Ox e0 HP;cases hR:Kr s t with
  |error e=>
   unfold uz at K;rw[hR]at K;simp only at K;clear hR;go_enter func122,ntmps122
   go_wp2_with(first|(go_at_call 130;refine K.mono ?_;rintro q w2 ⟨g1,⟨v,d,hd,rfl,g2⟩,⟨r',g3⟩,g4⟩)|(go_at_call 37;refine(yU _ d _ _ _ _ avF).mono ?_;rintro q w3 ⟨v3,rfl,g5,g6⟩))
   go_ret;exact⟨wZ g1 g6,⟨_,d+1,ag,rfl,g5⟩,⟨_,ql.later g3 (S:=λ_=>False) (.qF g6) (ql.lt g3) id⟩,λh=>(g4 h).below g6⟩
  |ok s'=>
   unfold uz at K;rw[hR]at K;simp only at K;clear hR;go_enter func122,ntmps122
   go_wp2_with(first|(go_at_call 130;refine K.mono ?_;rintro q w2 ⟨g1,rfl,g2⟩)|(go_at_call 37;refine(Iz _ _).mono ?_;rintro q w3 ⟨rfl,Qo⟩;obtain rfl:=Qo.symm))
   exact ayB
 .have K:=Rf B rb s t vN vS vC vT hb ht w I uY hPow h16 e0 (hfk ag).1 (hfk ag).2.1 (hfk ag).2.2.2;have HP:Hid (vK s t=VU s t):=by show _=_;unfold vK;rw[au ag,ay e0]
  rw[HP.out];rw[e0]at XY;clear hfk hft Ox e0 HP;cases hR:VU s t with
  |error e=>
   unfold uz at K;rw[hR]at K;simp only at K;clear hR;go_enter func122,ntmps122
   go_wp2_with(first|(go_at_call 131;refine K.mono ?_;rintro q w2 ⟨g1,⟨v,d,hd,rfl,g2⟩,⟨r',g3⟩,g4⟩)|(go_at_call 37;refine(yU _ d _ _ _ _ avF).mono ?_;rintro q w3 ⟨v3,rfl,g5,g6⟩))
   go_ret;exact⟨wZ g1 g6,⟨_,d+1,ag,rfl,g5⟩,⟨_,ql.later g3 (S:=λ_=>False) (.qF g6) (ql.lt g3) id⟩,λh=>(g4 h).below g6⟩
  |ok s'=>
   unfold uz at K;rw[hR]at K;simp only at K;clear hR;go_enter func122,ntmps122
   go_wp2_with(first|(go_at_call 131;refine K.mono ?_;rintro q w2 ⟨g1,rfl,g2⟩)|(go_at_call 37;refine(Iz _ _).mono ?_;rintro q w3 ⟨rfl,Qo⟩;obtain rfl:=Qo.symm))
   exact ayB
 .have K:=XK B rb s t vN vS vC vT hb ht w I uY e0 (hfk ag).1 (hfk ag).2.1 (hfk ag).2.2.1 (hft ag);have HP:Hid (vK s t=Fb s t):=by show _=_;unfold vK;rw[au ag,au ag,ay e0]
  rw[HP.out];rw[e0]at XY;clear hfk hft Ox e0 HP;cases hR:Fb s t with
  |error e=>
   unfold uz at K;rw[hR]at K;simp only at K;clear hR;go_enter func122,ntmps122
   go_wp2_with(first|(go_at_call 132;refine K.mono ?_;rintro q w2 ⟨g1,⟨v,d,hd,rfl,g2⟩,⟨r',g3⟩,g4⟩)|(go_at_call 37;refine(yU _ d _ _ _ _ avF).mono ?_;rintro q w3 ⟨v3,rfl,g5,g6⟩))
   go_ret;exact⟨wZ g1 g6,⟨_,d+1,ag,rfl,g5⟩,⟨_,ql.later g3 (S:=λ_=>False) (.qF g6) (ql.lt g3) id⟩,λh=>(g4 h).below g6⟩
  |ok s'=>
   unfold uz at K;rw[hR]at K;simp only at K;clear hR;go_enter func122,ntmps122
   go_wp2_with(first|(go_at_call 132;refine K.mono ?_;rintro q w2 ⟨g1,rfl,g2⟩)|(go_at_call 37;refine(Iz _ _).mono ?_;rintro q w3 ⟨rfl,Qo⟩;obtain rfl:=Qo.symm))
   exact ayB
 .have K:=aay B rb s t vN vS vC vT hb ht w I e0;have HP:Hid (vK s t=Kt s t):=by show _=_;unfold vK;rw[au ag,au ag,au ag]
  rw[HP.out];rw[e0]at XY;clear hfk hft Ox e0 HP;cases hR:Kt s t with
  |error e=>
   unfold uz at K;rw[hR]at K;simp only at K;clear hR;go_enter func122,ntmps122
   go_wp2_with(first|(go_at_call 133;refine K.mono ?_;rintro q w2 ⟨g1,⟨v,d,hd,rfl,g2⟩,⟨r',g3⟩,g4⟩)|(go_at_call 37;refine(yU _ d _ _ _ _ avF).mono ?_;rintro q w3 ⟨v3,rfl,g5,g6⟩))
   go_ret;exact⟨wZ g1 g6,⟨_,d+1,ag,rfl,g5⟩,⟨_,ql.later g3 (S:=λ_=>False) (.qF g6) (ql.lt g3) id⟩,λh=>(g4 h).below g6⟩
  |ok s'=>
   unfold uz at K;rw[hR]at K;simp only at K;clear hR;go_enter func122,ntmps122
   go_wp2_with(first|(go_at_call 133;refine K.mono ?_;rintro q w2 ⟨g1,rfl,g2⟩)|(go_at_call 37;refine(Iz _ _).mono ?_;rintro q w3 ⟨rfl,Qo⟩;obtain rfl:=Qo.symm))
   exact ayB
end
end Go.Proofs.Y
namespace Go.Proofs.Y
open Go.Proofs.Tryz
theorem Kw{s:St}{t:ak}{e:Nat×Nat}(h:zg s t=some e)(h4:e.1=4):t.length<s.sz:=by
 unfold zg at h;split at h
 .assumption
 .split at h
  .cases h
  .exact aym
theorem aeZ{s:St}{t:ak}{e:Nat×Nat}(h:vK s t=.error e)(h4:e.1=4):t.length<s.sz:=by
 unfold vK at h;split at h
 .unfold Kr at h;split at h
  .exact aym
  .split at h
   .exact ayF
   .split at h
    .exact aym
    .cases h
 .split at h
  .unfold VU at h;split at h
   .exact ayF
   .split at h
    .exact aym
    .split at h
     .cases h
     .exact aym
  .split at h
   .unfold Fb at h;split at h
    .exact ayF
    .split at h
     .exact aym
     .cases h
   .unfold Kt at h;split at h
    .exact aym
    .split at h
     .assumption
     .cases h
def PlB(s:St):Prop:=(s.nx=0->s.pl=0)/\(s.nx=1->s.pl=32)/\(2<=s.nx->s.pl<=300040+9*s.qH.length+(if s.nx=4 then 4 else 0))
theorem aaz{s s':St}{t:ak}(h:vK s t=.ok s'):s'.nx=s.nx/\s'.pl=s.pl/\(s.nx=1->s'.m=s.m/\s'.ln=s.ln)/\(s.nx=2->s'.ln=s.ln/\s'.qH.length=s.qH.length+(part t 0 (t.length-8)).length)/\(s.nx=3->s'=s):=by
 unfold vK at h;split at h
 .rename_i h0;unfold Kr at h;split at h
  .cases h
  .split at h
   .cases h
   .split at h
    .cases h
    .cases h;exact⟨rfl,rfl,ag,ag,ag⟩
 .split at h
  .unfold VU at h;split at h
   .cases h
   .split at h
    .cases h
    .split at h
     .cases h;exact⟨rfl,rfl,λ_=>⟨rfl,rfl⟩,ag,ag⟩
     .cases h
  .split at h
   .unfold Fb at h;split at h
    .cases h
    .split at h
     .cases h
     .cases h;exact⟨rfl,rfl,ag,λ_=>⟨rfl,ax⟩,ag⟩
   .unfold Kt at h;split at h
    .cases h
    .split at h
     .cases h
     .cases h;exact⟨rfl,rfl,ag,ag,λ_=>rfl⟩
def meas(nx ln cl:Nat):Nat:=if nx=0 then 200001 else if nx=1 then 200000 else if nx=2 then 2+(ln-cl)else if nx=3 then 1 else 0
theorem Good.nx2{s:St}{Z:ak}(hG:Good s Z)(h:s.nx=2):1<=s.c/\s.qH.length<s.ln/\s.ln<=65536:=by
 cases hG with
 |frame h0 hm h1 f hf he=>exact⟨hm.head.facts.2.2.2.2.2.1,h1,hm.head.facts.2.2.2.2.2.2.2.2.2⟩
 |head h0=>omega
 |OD h0=>omega
 |tail h0=>omega
 |done h0=>omega
theorem aaA(s:St)(t:ak):(tV s t).nx=x_ s/\(tV s t).ln=s.ln/\(tV s t).qH=s.qH/\(tV s t).pl=s.pl+t.length:=⟨rfl,rfl,rfl,rfl⟩
theorem anr{s s':St}{Z t:ak}(hG:Good s Z)(h4:s.nx<=3)(h:vK s t=.ok s')(ht:t.length=s.sz)(hG':Good (tV s' t) Z):meas (tV s' t).nx (tV s' t).ln (tV s' t).qH.length<meas s.nx s.ln s.qH.length:=by
 obtain⟨e1,e2,e3,e5,e6⟩:=aaz h;obtain⟨m1,m2,m3,m4⟩:=aaA s' t;rw[m1,m2,m3];have hb:=hG'.bounds;unfold x_;rw[e1];have h4':s.nx=0\/s.nx=1\/s.nx=2\/s.nx=3:=ag;rcases h4' with q|q|q|q
 .rw[q];simp[meas]
 .rw[q];by_cases qc:s'.qH.length<s'.ln
  .have hl:=hb.2.1;rw[m1,m2]at hl;unfold x_ at hl;rw[e1,q]at hl;simp[qc]at hl;simp[meas,qc];omega
  .simp[meas,qc]
 .rw[q];obtain⟨h1,h2,h3⟩:=hG.nx2 q;obtain⟨h5,h6⟩:=e5 q
  have h7:1<=(part t 0 (t.length-8)).length:=by rw[qN ag,ht,sz2 q];omega
  by_cases qc:s'.qH.length<s'.ln
  .simp[meas,qc];omega
  .simp[meas,qc];omega
 .rw[q];simp[meas]
theorem PlB.next{s s':St}{t:ak}(hp:PlB s)(hm:s.m<=300000)(h4:s.nx<=3)(h:vK s t=.ok s')(ht:t.length=s.sz)(h2:s.nx=2->1<=min s.c (s.ln-s.qH.length)):PlB (tV s' t):=by
 obtain⟨e1,e2,e3,e5,e6⟩:=aaz h;obtain⟨m1,m2,m3,m4⟩:=aaA s' t;obtain⟨p0,p1,p2⟩:=hp;unfold PlB;rw[m1,m3,m4,e2];unfold x_;rw[e1];have h4':s.nx=0\/s.nx=1\/s.nx=2\/s.nx=3:=ag;rcases h4' with q|q|q|q
 .rw[ay q];have:=p0 q;have:=sz0 q;exact⟨ag,λ_=>ag,ag⟩
 .rw[au ag,au ag];have:=p1 q;have:=sz1 q;exact azw
 .rw[au ag,au ag];have CE:=p2 ag;rw[au ag]at CE;obtain⟨h5,h6⟩:=e5 q;have hz:=sz2 q;have h7:(part t 0 (t.length-8)).length=t.length-8:=qN ag;have h8:=h2 q;exact azw
 .rw[au ag,ay q];have CE:=p2 ag;rw[au ag]at CE;have hz:=sz3 q;have:=e6 q;subst this;exact⟨ag,ag,λ_=>aS⟩

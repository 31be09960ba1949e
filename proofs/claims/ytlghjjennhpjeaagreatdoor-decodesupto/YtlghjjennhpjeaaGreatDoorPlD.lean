import Derived.Test.YtlghjjennhpjeaaGreatDoorPrI
import Derived.Test.YtlghjjennhpjeaaGreatDoorShelf
import Derived.Lib.ItoaLen
set_option maxHeartbeats 4000000
set_option maxRecDepth 100000
namespace Go.Proofs.Y
open Go.Proofs.Tryz
open Go.RowKit Go.Deep
def Pow(w:ah):Prop:=Lib.TabIs prog w "internal/strconv.uint64pow10" .u64 Lib.pow10Tab
theorem aeB(w:ah)(k:Nat)(os:Array Obj):Below w.heap.size w (Sort.grow (w.drewN k) os):=
 ⟨rfl,rfl,rfl,aA,λi hi=>by rw[Sort.heap_grow_old _ _ (by exact hi)];rfl⟩
theorem ajX(n:Int)(h0:0<=n)(h1:n<=100000)(w:ah)(h:Pow w):
  Calls prog 143 #[.int .i64 n] w λe w'=>(∃s:ByteArray,e=.returned (.string s)/\s.size<=21)/\Below w.heap.size w w':=by
 refine(Any.strconv_Itoa Tryz.lays171 n ag ag w h).mono ?_;rintro e w' ⟨rfl,k,os,rfl⟩;have hl:=Lib.itoa_length_le n ag ag;exact⟨⟨_,rfl,by simpa[ByteArray.size]using hl⟩,aeB w k os⟩
section
variable (B lb b off ct:Nat)(u:aj)(pl a:Nat)(vN vS:ai)(ns:List (aj))(zs:aC)(Nk:lb<B)(RZ:b<B)(QN:lb≠b)(hu:u.length<=1000000)(Ba:u.length<ct)(ha:a<=u.length)(uD:pl<=1000000000000)(VS:ns.length<1000)(Xd:zs.length=ns.length)(hzs:zs.sum<=65536)(w:ah)(I:LsI B w lb b off ct u pl a vN vS ns zs)
include Nk RZ QN hu Ba ha uD VS Xd hzs I in
theorem ZN:Calls prog 142 #[.pointer (some ⟨lb,0,none⟩)] w λq w'=>GV B w lb b off ct u pl a ns zs q w':=by
 by_cases q1:u.length<a+6\/le u a 2<1\/255<le u a 2\/u.length<a+6+le u a 2
 .refine(ad4 B lb b off ct u pl a vN vS ns zs hu Ba ha uD w I q1).mono λq w' h=>?_
  unfold GV yh;rw[ax q1];exact h
 .by_cases q2:0<ns.length/\uh (part u (a+2) (le u a 2)) (ns.getD (ns.length-1) [])=true
  .refine(ad7 B lb b off ct u pl a vN vS ns zs hu Ba ha uD VS w I (le u a 2) rfl ag ag ag _ rfl q2.1 q2.2).mono λq w' h=>?_
   unfold GV yh;rw[au q1,ax q2];exact h
  .have q2':0<ns.length->uh (part u (a+2) (le u a 2)) (ns.getD (ns.length-1) [])=false:=λh=>by
    cases hh:uh (part u (a+2) (le u a 2)) (ns.getD (ns.length-1) [])with
    |false=>rfl
    |true=>exact absurd ⟨h,hh⟩ q2
   by_cases q3:65536<zs.sum+le u (a+2+le u a 2) 4
   .refine(ad8 B lb b off ct u pl a vN vS ns zs hu Ba ha uD VS hzs w I (le u a 2) rfl ag ag ag _ rfl _ rfl q3 q2').mono λq w' h=>?_
    unfold GV yh;rw[au q1,au q2,ax q3];have e:a+2+le u a 2=a+(2+le u a 2):=ag;simp only;rw[e];exact h
   .refine(ad9 B lb b off ct u pl a vN vS ns zs Nk RZ QN hu Ba ha uD VS Xd hzs w I (le u a 2) rfl ag ag ag _ rfl _ rfl ag q2').mono λq w' h=>?_
    unfold GV yh;rw[au q1,au q2,au q3];exact h
end
theorem Pow.but{w w':ah}{B:Nat}{S:Nat->Prop}(h:Pow w)(hb:qG B S w w')(hB:∀k,k<5->k<B/\¬S k):Pow w':=by
 have hg:∃g,g<5/\prog.globalNamed "internal/strconv.uint64pow10" =some g:=by exact⟨4,aB,ak⟩
 obtain⟨g,aq0,hg⟩:=hg;unfold Pow Lib.TabIs World.var? at h⊢;rw[hg]at h⊢;simp only[gX]at h⊢;rw[hb.block g (hB g aq0).1 (hB g aq0).2];exact h
def Pv(B:Nat)(w:ah)(lb b off ct:Nat)(u:aj)(pl:Nat)(q:Ending)(w':ah):Prop:=
 qG B (· =lb) w w'/\match CJ u with
 | .error p=>∃v d,d<=1/\q=.returned v/\sF w' d v 7 (pl+p)
 | .ok (ns,zs)=>q=.returned .nilIface/\∃vN vS a,LsI B w' lb b off ct u pl a vN vS ns zs
section
variable (B lb b off ct:Nat)(u:aj)(pl:Nat)(Nk:lb<B)(RZ:b<B)(QN:lb≠b)(hu4:4<=u.length)(hu:u.length<=1000000)(Ba:u.length<ct)(uD:pl<=1000000000000)(w:ah)(I:LsI B w lb b off ct u pl 0 (.slice none 0 0) (.slice none 0 0) [] [])(hP:Pow w)(asf:5<=lb)
include Nk RZ QN hu4 hu Ba uD I hP asf in
theorem Qv:Calls prog 133 #[.pointer (some ⟨lb,0,none⟩)] w λq w'=>Pv B w lb b off ct u pl q w':=by
 have c0:=ql.cell I.ls (i:=0) rfl;have c2:=ql.cell I.ls (i:=2) rfl;have f2:=ql.frozen I.ls 2;have e4:(part u 0 4).length=4:=qF ag
 have LW:le (part u 0 4) 0 4=le u 0 4:=by simp only[le];rw[uV ag,uV ag,uV ag,uV ag]
 have K4:=λcap=>xe b off 4 cap (part u 0 4) e4 ag w (by have:=I.LV.part (a:=0) (n:=4) ag;exact this)
 rw[LW]at K4;have asg:le u 0 4<2^32:=IZ u 4 0;obtain⟨N,eN⟩:∃N,le u 0 4=N:=⟨_,rfl⟩;rw[eN]at K4 asg;by_cases q1:1000<N
 .have HL:Hid (CJ u=.error 0):=by show _=_;unfold CJ;rw[eN,ax q1]
  have KW:=BH lb _ pl 0 _ _ _ uD ag w I.ls 0 0 pl rfl ag ag;clear e4 LW eN;go_enter func133,ntmps133
  go_wp2_with(first|(go_at_call 139;refine(K4 _).mono ?_;rintro q w' ⟨rfl,sH⟩;obtain rfl:=sH.symm)|(go_at_call 141;refine KW.mono ?_;rintro q w2 ⟨v,rfl,g1,g2⟩))
  go_ret;refine⟨(qG.qw g2).mono I.size (λ_ x=>x),?_⟩;rw[HL.out];exact⟨_,0,ag,rfl,g1⟩
 .have HL:Hid (CJ u=BU u N 4 [] []):=by show _=_;unfold CJ;rw[eN,au q1]
  have J0:LsJ B w w lb b off ct u pl 0 (.slice none 0 0) (.slice none 0 0) [] [] 0:=⟨I.ls,I.on,I.os,I.ap,I.LV,I.size,qG.refl _ _ _⟩;have J1:=J0.ajY Nk RZ QN 4;clear J0 I e4 LW eN;go_enter func133,ntmps133
  go_wp2_with(first|(go_at_call 139;refine(K4 _).mono ?_;rintro q w' ⟨rfl,sH⟩;obtain rfl:=sH.symm))
  have J2:LsJ B w (w.setCell ⟨lb,2,none⟩ (.int .i64 4)) lb b off ct u pl 4 (.slice none 0 0) (.slice none 0 0) [] [] 0:=J1;clear J1 K4 c0 c2 f2;generalize w.setCell ⟨lb,2,none⟩ (.int .i64 4)=w1 at J2⊢
  go_loopw [21] (λvi wr=>∃(c a:Nat)(ns:List (aj))(zs:aC)(vN vS:ai),c<=N/\a<=u.length/\vi=.int .i64 (c:Int)/\Hid (ns.length=c)/\Hid (zs.length=ns.length)/\Hid (zs.sum<=65536)/\LsI B wr lb b off ct u pl a vN vS ns zs/\qG B (· =lb) w wr/\Hid (CJ u=BU u (N-c) a ns zs)) (λi _=>N-(intOf i).toNat)
  case atStart=>exact⟨0,4,[],[],_,_,ag,hu4,rfl,rfl,rfl,(show([]:aC).sum<=65536 by simp),⟨J2.ls,J2.on,J2.os,J2.ap,J2.LV,J2.size⟩,J2.but,HL⟩
  case round=>
   obtain⟨c,a,ns,zs,vN,vS,hc,ha,rfl,H1,H2,H3,I,hb,HR⟩:=hrel;clear J2 HL;have hPr:Pow wr:=hP.but hb (λk hk=>⟨ag,ag⟩);by_cases qB:c<N
   .have K:=ZN B lb b off ct u pl a vN vS ns zs Nk RZ QN hu Ba ha uD (by rw[H1.out];omega) H2.out H3.out wr I;unfold GV at K
    have HR2:Hid (CJ u=match yh u a ns zs with| .error p=>.error p| .ok (nm,z)=>BU u (N-(c+1)) (a+(6+nm.length)) (ns++[nm]) (zs++[z])):=by
     show _=_;rw[HR.out,show N-c=(N-(c+1))+1 by omega,BU]
     all_goals rfl
    cases Jf:yh u a ns zs with
    |error p=>
     rw[Jf]at K HR2;simp only at K HR2;have hsz:=I.size;clear HR I Jf
     go_wp2_with(first|(go_at_call 142;refine K.mono ?_;rintro q w2 ⟨v,rfl,g1,g2⟩;have V6:=hPr.but (S:=λ_=>False) (.qw g2) (λk hk=>⟨ag,id⟩);obtain⟨ty,x,rfl⟩:=g1.iface)|(go_at_call 143;refine(ajX _ ag ag _ (by exact V6)).mono ?_;rintro q w3 ⟨⟨s3,rfl,zM⟩,g3⟩;have g4:=g1.under g3)|(go_at_call 24;refine(yI _ 0 _ 7 (pl+p) _ (by exact g4)).mono ?_;rintro q w5 ⟨v5,rfl,g5,g6⟩))
     go_ret;have h2s:=g2.size;have h3s:=g3.size;refine⟨hb.trans ((qG.qw (g2.mono hsz)).trans ((qG.qw (g3.mono ag)).trans (.qw (g6.mono ag)))),?_⟩;rw[HR2.out];exact⟨_,1,ag,rfl,g5⟩
    |ok x=>
     obtain⟨nm,z⟩:=x;rw[Jf]at K HR2;simp only at K HR2;have tV:=Jf;unfold yh at tV
     have hsum:zs.sum+z<=65536/\a+(6+nm.length)<=u.length:=by
      split at tV
      .cases tV
      .split at tV
       .cases tV
       .split at tV
        .cases tV
        .cases tV;refine⟨ag,?_⟩;rw[qF ag];omega
     have HS:Hid (zs.sum+z<=65536):=hsum.1;have ha2:=hsum.2;clear HR I Jf tV hsum H3
     go_wp2_with(first|(go_at_call 142;refine K.mono ?_;rintro q w2 ⟨rfl,g1,vN2,vS2,g2⟩))
     go_roundw
     case rel=>exact⟨c+1,_,ns++[nm],zs++[z],vN2,vS2,ag,ha2,aV,(show(ns++[nm]).length=c+1 by rw[bM,H1.out];rfl),(show(zs++[z]).length=(ns++[nm]).length by rw[bM,bM,H2.out];rfl),(show(zs++[z]).sum<=65536 by rw[jd];have:=HS.out;simpa using this),g2,hb.trans g1,HR2⟩
     case measure=>simp[intOf];omega
   .obtain rfl:c=N:=ag
    have HR2:Hid (CJ u=if a<u.length then .error a else .ok (ns,zs)):=by show _=_;rw[HR.out,mZ,BU]
    have c0:=ql.cell I.ls (i:=0) rfl;have c2:=ql.cell I.ls (i:=2) rfl;have KW:=λn=>BH lb _ pl a _ _ _ uD ag (wr.drewN n) (I.ls.drewN n) 0 0 (pl+a) rfl ag ag
    have hsz:=I.size;by_cases q2:a<u.length
    .have HX:Hid (CJ u=.error a):=by show _=_;rw[HR2.out,ax q2]
     clear HR HR2 I
     go_wp2_with fail
     go_big_quiet (fail)
     go_wp2_with(first|(go_at_call 141;refine(KW _).mono ?_;rintro q w2 ⟨v,rfl,g1,g2⟩))
     go_ret;have g3:Below wr.heap.size wr w2:=⟨g2.os,g2.tape,g2.output,g2.size,g2.block⟩;refine⟨hb.trans (.qw (g3.mono hsz)),?_⟩;rw[HX.out];exact⟨_,0,ag,rfl,g1⟩
    .have HX:Hid (CJ u=.ok (ns,zs)):=by show _=_;rw[HR2.out,au q2]
     have I':=λn=>I.drewN n
     clear HR HR2 KW I
     go_wp2_with fail
     go_big_quiet (fail)
     go_wp2;go_ret;refine⟨hb.drewN _,?_⟩;rw[HX.out];exact⟨rfl,vN,vS,a,I' _⟩
end
theorem BD{w:ah}{B B' e n:Nat}{v:ai}{xs:aK}(h:w.ownsRow B' e 1 v n xs)(hB:B<=B'):w.ownsRow B e 1 v n xs:=by
 refine⟨h.1,?_⟩;rcases h.2 with x|⟨g,cap,cur,e1,h1,h2⟩
 .exact .inl x
 .exact .inr ⟨g,cap,cur,e1,bF hB h1,h2⟩
theorem RI.lists{B rb:Nat}{w:ah}{s:St}{t:aj}{vN vS vC vT OT OU:ai}{ns:List (aj)}{zs:aC}(I:RI B w rb s t vN vS vC vT)(hn:w.ownsRow B 9 1 OT ns.length (zC ns))(hs:w.ownsRow B 3 1 OU zs.length (uH zs))(tt:Nat):
  RI B (((w.setCell ⟨rb,4,none⟩ OT).setCell ⟨rb,5,none⟩ OU).setCell ⟨rb,9,none⟩ (.int .i64 (tt:Int))) rb {s with ns:=ns,zs:=zs,tt:=tt} t OT OU vC vT/\qG w.heap.size (· =rb) w (((w.setCell ⟨rb,4,none⟩ OT).setCell ⟨rb,5,none⟩ OU).setCell ⟨rb,9,none⟩ (.int .i64 (tt:Int))):=by
 have hB:qG w.heap.size (· =rb) w (((w.setCell ⟨rb,4,none⟩ OT).setCell ⟨rb,5,none⟩ OU).setCell ⟨rb,9,none⟩ (.int .i64 (tt:Int))):=(((qG.refl w.heap.size (· =rb) w).setCell (p:=⟨rb,4,none⟩) (.inr rfl) OT).setCell (p:=⟨rb,5,none⟩) (.inr rfl) OU).setCell (p:=⟨rb,9,none⟩) (.inr rfl) _;have key:∀{e n:Nat}{v:ai}{xs:aK},w.ownsRow B e 1 v n xs->e≠102->(((w.setCell ⟨rb,4,none⟩ OT).setCell ⟨rb,5,none⟩ OU).setCell ⟨rb,9,none⟩ (.int .i64 (tt:Int))).ownsRow B e 1 v n xs:=λh he=>qY h (λg um=>hB.block g (h.lt g um).2 (λe=>uK h I.rd he (by rw[um,e])))
 have hR:xU (((w.setCell ⟨rb,4,none⟩ OT).setCell ⟨rb,5,none⟩ OU).setCell ⟨rb,9,none⟩ (.int .i64 (tt:Int))) rb (({s with ns:=ns,zs:=zs,tt:=tt}:St).rd OT OU vC vT .nilIface):=((ql.set I.rd 4 OT).set 5 OU).set 9 (.int .i64 (tt:Int));exact⟨⟨hR,key hn aB,key hs aB,key I.oc aB,key I.ot aB,I.ap,bF I.size hB.size⟩,hB⟩
theorem RI.apc{B rb:Nat}{w w1:ah}{s:St}{t:aj}{vN vS vC vT v1:ai}(I:RI B w rb s t vN vS vC vT)(hb:Below w.heap.size w w1)(h1:BK B w1 v1 [])(hk:v1.ownBlock=some w.heap.size):
  RI B (w1.setCell ⟨rb,6,none⟩ v1) rb {s with qC:=[]} t vN vS v1 vT/\qG w.heap.size (· =rb) w (w1.setCell ⟨rb,6,none⟩ v1)/\w1.cell? ⟨rb,6,none⟩=some vC/\w1.frozen? ⟨rb,6,none⟩=false:=by
 have I1:=I.below hb;have LX:xU (w1.setCell ⟨rb,6,none⟩ v1) rb (({s with qC:=[]}:St).rd vN vS v1 vT .nilIface):=ql.set I1.rd 6 v1;refine⟨⟨LX,uY I1.on (uK I1.on I1.rd aB),uY I1.os (uK I1.os I1.rd aB),uY h1 (uK h1 I1.rd aB),uY I1.ot (uK I1.ot I1.rd aB),?_,?_⟩,?_,ql.cell I1.rd (i:=6) rfl,ql.frozen I1.rd 6⟩
 .intro g Ko Oe;have h2:=(kH I.ot g Oe).2;rw[hk]at Ko;cases Ko;omega
 .have:=I1.size;exact axb
 .exact qG.setCell (S:=(· =rb)) (qG.qw hb) (p:=⟨rb,6,none⟩) (.inr rfl) v1
section
variable (B rb:Nat)(s:St)(t:aj)(vN vS vC vT:ai)(hb:Bd s)(ht:t.length<=s.sz)(w:ah)(I:RI B w rb s t vN vS vC vT)(uX:LQ w)(hPow:Pow w)(h16:5<=w.heap.size)
include hb ht I uX hPow h16 in
theorem Qw(Nh:s.nx=1)(NU:1<=s.k)(SY:s.k<=128)(hm4:4<=s.m):Calls prog 120 #[.pointer (some ⟨rb,0,none⟩)] w λq w'=>uq B w rb s t vN vS vC vT (WV s t) 1 q w':=by
 obtain⟨bc,cc,eC,hcc⟩:=I.oc.slice;obtain⟨bt,ct,eT,Ba⟩:=I.ot.slice;have hz:=St.XP hb;have KS:=J4 rb (s.rd vN vS vC vT .nilIface) bc s.qC.length cc eC mO mQ mP hb.qC nX t bt ct eT ag mM w I.rd I.ot.lies uX;have hsz:yM s.nx s.c s.m s.ln s.qC.length=s.sz:=rfl;simp only[St.rd,hsz]at KS;have hSP:MP s.sz s.pl t=Ad s t:=rfl;simp only[hSP]at KS;unfold WV;cases N_:Ad s t with
 |some e=>
  unfold zH at KS;rw[N_]at KS;simp only at KS⊢;clear N_;go_enter func120,ntmps120
  go_wp2_with(first|(go_at_call 131;refine KS.mono ?_;rintro q w2 ⟨v,rfl,g1,g2⟩;obtain⟨ty,x,rfl⟩:=g1.iface))
  go_ret;exact uq.fault I (iH _) g1 g2
 |none=>
  unfold zH at KS;rw[N_]at KS;simp only at KS⊢;have wW:=sz1 Nh
  have hl8:t.length=s.sz:=by
   unfold Ad at N_;split at N_
   .cases N_
   .omega
  obtain⟨b,off,ebt,hB,hbr⟩:∃b off,bt=some ⟨b,off,none⟩/\xM w b off t/\b≠rb:=by exact ayy
  subst ebt;have em:t.length-8=s.m:=ag;have hu:(part t 0 s.m).length=s.m:=qF ag;have hBu:xM w b off (part t 0 s.m):=by have:=hB.part (a:=0) (n:=s.m) ag;exact this
  rw[em]at KS⊢;have uD:=hb.pl;have hm:=hb.m;have TT:=ql.cell I.rd (i:=11) rfl;simp only[St.rd]at TT;obtain⟨pl,Wq⟩:∃pl,s.pl=pl:=⟨_,rfl⟩;obtain⟨m,emm⟩:∃m,s.m=m:=⟨_,rfl⟩;obtain⟨u,eu⟩:∃u,part t 0 s.m=u:=⟨_,rfl⟩;rw[eu]at hu hBu⊢;rw[Wq]at TT uD⊢;rw[emm]at KS hu hm hm4;clear N_ hl8 hsz hSP;have anz:∀j,Pow (w.drewN j):=λj=>hPow.but (S:=λ_=>False) (B:=w.heap.size) ((qG.refl _ _ _).drewN j) (λk hk=>⟨ag,id⟩)
  have facts:∀j w2,w2=w.drewN j->RI B w2 rb s t vN vS vC vT/\w2.cell? ⟨rb,11,none⟩=some (.int .i64 (pl:Int))/\Pow w2/\5<=w2.heap.size/\qG w.heap.size (λ_=>False) w w2/\xM w2 b off u/\w.heap.size=w2.heap.size:=by rintro j w2 rfl;exact⟨I.drewN j,by simpa using TT,anz j,h16,(qG.refl _ _ _).drewN j,hBu,rfl⟩
  clear anz TT hBu hPow uX;cases hL:CJ u with
  |error p=>
   simp only;go_enter func120,ntmps120
   go_upto_region 5 with(first|(go_at_call 131;refine KS.mono ?_;rintro q w2 ⟨rfl,j,xI⟩;obtain⟨I2,TT,V6,ajZ,rq,zJ,Gn⟩:=facts j w2 xI;have HS2:Hid (w.heap.size=w2.heap.size):=Gn;clear xI Gn facts I hB KS))
   have Tj:=(aO w2.heap.size w2).alloc (ay _) (.cells (lsL (.slice (some ⟨b,off,none⟩) m ct) pl 0 (.slice none 0 0) (.slice none 0 0) 0).toArray 208);have hL3:DK (w2.alloc (.cells (lsL (.slice (some ⟨b,off,none⟩) m ct) pl 0 (.slice none 0 0) (.slice none 0 0) 0).toArray 208)) w2.heap.size (.slice (some ⟨b,off,none⟩) m ct) pl 0 (.slice none 0 0) (.slice none 0 0) 0:=ql.made w2 _ _;have zM:w2.heap.size<(w2.alloc (.cells (lsL (.slice (some ⟨b,off,none⟩) m ct) pl 0 (.slice none 0 0) (.slice none 0 0) 0).toArray 208)).heap.size:=aA;have Jf:b<w2.heap.size:=rY (zJ 0 ag);unfold lsL at Tj hL3 zM;generalize PY:w2.alloc _=w3 at Tj hL3 zM⊢;clear PY;have F8:xM w3 b off u:=zJ.later (S:=λ_=>False) (.qw Tj) Jf id;have hP3:Pow w3:=V6.but (S:=λ_=>False) (.qw Tj) (λk hk=>⟨ag,id⟩);rw[<-hu]at hL3;have LI:LsI w3.heap.size w3 w2.heap.size b off ct u pl 0 (.slice none 0 0) (.slice none 0 0) [] []:=⟨hL3,bY _ _ _ _,bY _ _ _ _,λg hg=>ou,F8,ay _⟩;have KL:=Qv w3.heap.size w2.heap.size b off ct u pl zM ag ag ag ag ag ag w3 LI hP3 ajZ;unfold Pv at KL;have hfr:∀w4,qG w3.heap.size (· =w2.heap.size) w3 w4->Below w2.heap.size w2 w4:=λw4 h=>Tj.trans ⟨h.os,h.tape,h.output,h.size,λk hk=>h.block k ag ag⟩
   have hfw:∀w4,Below w2.heap.size w2 w4->Below w.heap.size w w4:=λw4 h=>(rq.below (λ_ _=>id)).trans (h.mono avA)
   rw[hL]at KL;simp only at KL;have HLZ:=HS2;clear hL LI hL3
   go_wp2_with(first|(go_at_call 133;refine KL.mono ?_;rintro q w4 ⟨g1,v,d,hd,rfl,g2⟩;obtain⟨ty,x,rfl⟩:=g2.iface))
   go_ret;have I4:=I2.below (hfr _ g1);exact⟨.qw (hfw _ (hfr _ g1)),⟨_,d,hd,rfl,g2⟩,⟨_,I4.rd⟩,λh=>gp⟩
  |ok x=>
   obtain⟨ns,zs⟩:=x;simp only
   have aq1:Hid (zs.sum<=65536):=by
    show _<=_;unfold CJ at hL;split at hL
    .cases hL
    .exact KD _ _ _ _ _ aA hL
   by_cases qn:s.ln=rO s.k zs.sum
   .rw[ax qn];go_enter func120,ntmps120
    go_upto_region 5 with(first|(go_at_call 131;refine KS.mono ?_;rintro q w2 ⟨rfl,j,xI⟩;obtain⟨I2,TT,V6,ajZ,rq,zJ,Gn⟩:=facts j w2 xI;have HS2:Hid (w.heap.size=w2.heap.size):=Gn;clear xI Gn facts I hB KS))
    have Tj:=(aO w2.heap.size w2).alloc (ay _) (.cells (lsL (.slice (some ⟨b,off,none⟩) m ct) pl 0 (.slice none 0 0) (.slice none 0 0) 0).toArray 208);have hL3:DK (w2.alloc (.cells (lsL (.slice (some ⟨b,off,none⟩) m ct) pl 0 (.slice none 0 0) (.slice none 0 0) 0).toArray 208)) w2.heap.size (.slice (some ⟨b,off,none⟩) m ct) pl 0 (.slice none 0 0) (.slice none 0 0) 0:=ql.made w2 _ _;have zM:w2.heap.size<(w2.alloc (.cells (lsL (.slice (some ⟨b,off,none⟩) m ct) pl 0 (.slice none 0 0) (.slice none 0 0) 0).toArray 208)).heap.size:=aA;have Jf:b<w2.heap.size:=rY (zJ 0 ag);unfold lsL at Tj hL3 zM;generalize PY:w2.alloc _=w3 at Tj hL3 zM⊢;clear PY;have F8:xM w3 b off u:=zJ.later (S:=λ_=>False) (.qw Tj) Jf id;have hP3:Pow w3:=V6.but (S:=λ_=>False) (.qw Tj) (λk hk=>⟨ag,id⟩);rw[<-hu]at hL3;have LI:LsI w3.heap.size w3 w2.heap.size b off ct u pl 0 (.slice none 0 0) (.slice none 0 0) [] []:=⟨hL3,bY _ _ _ _,bY _ _ _ _,λg hg=>ou,F8,ay _⟩;have KL:=Qv w3.heap.size w2.heap.size b off ct u pl zM ag ag ag ag ag ag w3 LI hP3 ajZ;unfold Pv at KL;have hfr:∀w4,qG w3.heap.size (· =w2.heap.size) w3 w4->Below w2.heap.size w2 w4:=λw4 h=>Tj.trans ⟨h.os,h.tape,h.output,h.size,λk hk=>h.block k ag ag⟩
    have hfw:∀w4,Below w2.heap.size w2 w4->Below w.heap.size w w4:=λw4 h=>(rq.below (λ_ _=>id)).trans (h.mono avA)
    rw[hL]at KL;simp only at KL;clear hL LI hL3
    go_upto_region 8 with(first|(go_at_call 133;refine KL.mono ?_;rintro q w4 ⟨g1,rfl,vN2,vS2,a2,g2⟩))
    have I4:=I2.below (hfr _ g1);have xX:=hfw _ (hfr _ g1);have d3:=ql.cell g2.ls (i:=3) rfl;have d4:=ql.cell g2.ls (i:=4) rfl;have d5:=ql.cell g2.ls (i:=5) rfl;have c4:=ql.cell I4.rd (i:=4) rfl;have c5:=ql.cell I4.rd (i:=5) rfl;have c9:=ql.cell I4.rd (i:=9) rfl;have f0:=ql.frozen I4.rd;obtain⟨bn,cn,en⟩:=uB g2.on;obtain⟨bz,cz,ez⟩:=uB g2.os;subst en ez
    go_upto_region 9 with(fail)
    obtain⟨I5,Y_⟩:=I4.lists (BD g2.on auu) (BD g2.os auu) zs.sum;have Za:qG w.heap.size (qQ rb vC vT) w _:=(qG.qw xX).trans (Y_.mono xX.size (λ_ x=>.inl x));clear d3 d4 d5 c4 c5 c9 f0 I4 Y_;generalize(((w4.setCell ⟨rb,4,none⟩ (.slice bn ns.length cn)).setCell ⟨rb,5,none⟩ (.slice bz zs.length cz)).setCell ⟨rb,9,none⟩ (.int .i64 (zs.sum:Nat)))=w5 at I5 Za⊢;have c0:=ql.cell I5.rd (i:=0) rfl;have c8:=ql.cell I5.rd (i:=8) rfl;have c9:=ql.cell I5.rd (i:=9) rfl;simp only[St.rd]at c0 c8 c9;have Je:=hb.ln;have KC:=λj=>Fg (s.k:Int) (zs.sum:Int) s.k zs.sum rfl rfl NU ag aq1.out (w5.drewN j)
    obtain⟨Z,eZ⟩:∃Z,zs.sum=Z:=⟨_,rfl⟩;obtain⟨LN,eLN⟩:∃LN,s.ln=LN:=⟨_,rfl⟩;rw[eZ]at c9 KC;rw[eLN]at c8 Je;obtain⟨LC,eLC⟩:∃LC,rO s.k Z=LC:=⟨_,rfl⟩;simp only[eLC]at KC;have HZ:Hid (zs.sum=Z):=eZ;obtain rfl:LN=LC:=by rw[<-eLN,qn,eZ,eLC]
    clear eZ eLC qn
    go_wp2_with fail
    go_big_quiet (first|(go_at_call 116;exact(KC _).mono (λ_ _ h=>⟨h.1,_,h.2⟩)))
    obtain⟨i0,zo,xY,ash,asi⟩:=cO Hy;obtain⟨w6,hmk,ho6,hg6⟩:=run_make_own (P:=prog) (w5.drewN nq) B 24 5 i0 (.int .u8 0) 1 underlying24 zo xY ash .i64 .i64 LN (by rw[asi];omega) bT I5.size;have Z5:Below w5.heap.size w5 w6:=yO ((aO (w5.drewN nq).heap.size (w5.drewN nq)).grown hg6 (ay _) (λk hk=>by cases hk));obtain⟨I6,hB7,x6,f6⟩:=I5.apc Z5 (BK.of ho6) rfl;go_wp2;subst emm eLN Wq;rw[Nh]at I6;rw[<-eC,<-eT];go_ret;refine⟨Za.trans (hB7.mono Za.size (λ_ x=>.inl x)),rfl,_,_,_,I6,.inr ⟨_,rfl,Za.size⟩⟩
   .rw[au qn];go_enter func120,ntmps120
    go_upto_region 5 with(first|(go_at_call 131;refine KS.mono ?_;rintro q w2 ⟨rfl,j,xI⟩;obtain⟨I2,TT,V6,ajZ,rq,zJ,Gn⟩:=facts j w2 xI;have HS2:Hid (w.heap.size=w2.heap.size):=Gn;clear xI Gn facts I hB KS))
    have Tj:=(aO w2.heap.size w2).alloc (ay _) (.cells (lsL (.slice (some ⟨b,off,none⟩) m ct) pl 0 (.slice none 0 0) (.slice none 0 0) 0).toArray 208);have hL3:DK (w2.alloc (.cells (lsL (.slice (some ⟨b,off,none⟩) m ct) pl 0 (.slice none 0 0) (.slice none 0 0) 0).toArray 208)) w2.heap.size (.slice (some ⟨b,off,none⟩) m ct) pl 0 (.slice none 0 0) (.slice none 0 0) 0:=ql.made w2 _ _;have zM:w2.heap.size<(w2.alloc (.cells (lsL (.slice (some ⟨b,off,none⟩) m ct) pl 0 (.slice none 0 0) (.slice none 0 0) 0).toArray 208)).heap.size:=aA;have Jf:b<w2.heap.size:=rY (zJ 0 ag);unfold lsL at Tj hL3 zM;generalize PY:w2.alloc _=w3 at Tj hL3 zM⊢;clear PY;have F8:xM w3 b off u:=zJ.later (S:=λ_=>False) (.qw Tj) Jf id;have hP3:Pow w3:=V6.but (S:=λ_=>False) (.qw Tj) (λk hk=>⟨ag,id⟩);rw[<-hu]at hL3;have LI:LsI w3.heap.size w3 w2.heap.size b off ct u pl 0 (.slice none 0 0) (.slice none 0 0) [] []:=⟨hL3,bY _ _ _ _,bY _ _ _ _,λg hg=>ou,F8,ay _⟩;have KL:=Qv w3.heap.size w2.heap.size b off ct u pl zM ag ag ag ag ag ag w3 LI hP3 ajZ;unfold Pv at KL;have hfr:∀w4,qG w3.heap.size (· =w2.heap.size) w3 w4->Below w2.heap.size w2 w4:=λw4 h=>Tj.trans ⟨h.os,h.tape,h.output,h.size,λk hk=>h.block k ag ag⟩
    have hfw:∀w4,Below w2.heap.size w2 w4->Below w.heap.size w w4:=λw4 h=>(rq.below (λ_ _=>id)).trans (h.mono avA)
    rw[hL]at KL;simp only at KL;clear hL LI hL3
    go_upto_region 8 with(first|(go_at_call 133;refine KL.mono ?_;rintro q w4 ⟨g1,rfl,vN2,vS2,a2,g2⟩))
    have I4:=I2.below (hfr _ g1);have xX:=hfw _ (hfr _ g1);have d3:=ql.cell g2.ls (i:=3) rfl;have d4:=ql.cell g2.ls (i:=4) rfl;have d5:=ql.cell g2.ls (i:=5) rfl;have c4:=ql.cell I4.rd (i:=4) rfl;have c5:=ql.cell I4.rd (i:=5) rfl;have c9:=ql.cell I4.rd (i:=9) rfl;have f0:=ql.frozen I4.rd;obtain⟨bn,cn,en⟩:=uB g2.on;obtain⟨bz,cz,ez⟩:=uB g2.os;subst en ez
    go_upto_region 9 with(fail)
    obtain⟨I5,Y_⟩:=I4.lists (BD g2.on auu) (BD g2.os auu) zs.sum;have Za:qG w.heap.size (qQ rb vC vT) w _:=(qG.qw xX).trans (Y_.mono xX.size (λ_ x=>.inl x));clear d3 d4 d5 c4 c5 c9 f0 I4 Y_;generalize(((w4.setCell ⟨rb,4,none⟩ (.slice bn ns.length cn)).setCell ⟨rb,5,none⟩ (.slice bz zs.length cz)).setCell ⟨rb,9,none⟩ (.int .i64 (zs.sum:Nat)))=w5 at I5 Za⊢;have c0:=ql.cell I5.rd (i:=0) rfl;have c8:=ql.cell I5.rd (i:=8) rfl;have c9:=ql.cell I5.rd (i:=9) rfl;simp only[St.rd]at c0 c8 c9;have Je:=hb.ln;have KC:=λj=>Fg (s.k:Int) (zs.sum:Int) s.k zs.sum rfl rfl NU ag aq1.out (w5.drewN j)
    obtain⟨Z,eZ⟩:∃Z,zs.sum=Z:=⟨_,rfl⟩;obtain⟨LN,eLN⟩:∃LN,s.ln=LN:=⟨_,rfl⟩;rw[eZ]at c9 KC;rw[eLN]at c8 Je;obtain⟨LC,eLC⟩:∃LC,rO s.k Z=LC:=⟨_,rfl⟩;simp only[eLC]at KC;have HZ:Hid (zs.sum=Z):=eZ
    have hne:((LN:Int)==(LC:Int))=false:=by
     have:LN≠LC:=λe=>qn (by rw[eLN,e,<-eLC,<-eZ])
     simp;omega
    have at6:((LN:Int) != (LC:Int))=true:=by
     have:LN≠LC:=λe=>qn (by rw[eLN,e,<-eLC,<-eZ])
     simp;omega
    clear eZ eLC qn
    go_wp2_with fail
    go_big_quiet (first|(go_at_call 116;exact(KC _).mono (λ_ _ h=>⟨h.1,_,h.2⟩)))
    go_wp2_with(first|(go_at_call 49;refine(AA _ _ 7 18 aF aF _).mono ?_;rintro q w7 ⟨v,rfl,h1,h2⟩))
    go_ret;have h3:=yO h2;exact⟨Za.trans (.qw (h3.mono Za.size)),⟨_,0,iH _,rfl,h1⟩,⟨_,(I5.below h3).rd⟩,λh=>gp⟩
end
structure Fit(s:St):Prop where
 bd:Bd s
 nx:s.nx<=3
 k:s.nx≠0->1<=s.k/\s.k<=128/\s.i<=128/\4<=s.m
 tt:2<=s.nx->s.tt<=65536
theorem wR{w w' w'':ah}{S:Nat->Prop}(h:qG w.heap.size S w w')(hb:Below w'.heap.size w' w''):qG w.heap.size S w w'':=h.trans (.qw (hb.mono h.size))
section
variable (B rb:Nat)(s:St)(t:aj)(vN vS vC vT:ai)(hF:Fit s)(ht:t.length<=s.sz)(w:ah)(I:RI B w rb s t vN vS vC vT)(uX:LQ w)(hPow:Pow w)(h16:5<=w.heap.size)
include hF ht I uX hPow h16 in
theorem XO:Calls prog 89 #[.pointer (some ⟨rb,0,none⟩)] w λq w'=>uq B w rb s t vN vS vC vT (y_ s t) 2 q w':=by
 have hb:=hF.bd;have Xj:=ql.cell I.rd (i:=10) rfl;simp only[St.rd]at Xj;have Nh:=hF.nx;have hfk:=hF.k;have hft:=hF.tt;have h4:s.nx=0\/s.nx=1\/s.nx=2\/s.nx=3:=ag;rcases h4 with e0|e0|e0|e0
 .have K:=ZO B rb s t vN vS vC vT hb ht w I uX e0;have HP:Hid (y_ s t=MR s t):=by show _=_;unfold y_;rw[ax e0]
  rw[HP.out];rw[e0]at Xj;clear hfk hft Nh e0 HP;cases hR:MR s t with
  |error e=>
   unfold uq at K;rw[hR]at K;simp only at K;clear hR;go_enter func89,ntmps89
   go_wp2_with(first|(go_at_call 119;refine K.mono ?_;rintro q w2 ⟨g1,⟨v,d,hd,rfl,g2⟩,⟨r',g3⟩,g4⟩)|(go_at_call 24;refine(yI _ d _ _ _ _ auz).mono ?_;rintro q w3 ⟨v3,rfl,g5,g6⟩))
   go_ret;exact⟨wR g1 g6,⟨_,d+1,ag,rfl,g5⟩,⟨_,ql.later g3 (S:=λ_=>False) (.qw g6) (ql.lt g3) id⟩,λh=>(g4 h).below g6⟩
  |ok s'=>
   unfold uq at K;rw[hR]at K;simp only at K;clear hR;go_enter func89,ntmps89
   go_wp2_with(first|(go_at_call 119;refine K.mono ?_;rintro q w2 ⟨g1,rfl,g2⟩)|(go_at_call 24;refine(Iq _ _).mono ?_;rintro q w3 ⟨rfl,PY⟩;obtain rfl:=PY.symm))
   exact axr
 .have K:=Qw B rb s t vN vS vC vT hb ht w I uX hPow h16 e0 (hfk ag).1 (hfk ag).2.1 (hfk ag).2.2.2;have HP:Hid (y_ s t=WV s t):=by show _=_;unfold y_;rw[au ag,ax e0]
  rw[HP.out];rw[e0]at Xj;clear hfk hft Nh e0 HP;cases hR:WV s t with
  |error e=>
   unfold uq at K;rw[hR]at K;simp only at K;clear hR;go_enter func89,ntmps89
   go_wp2_with(first|(go_at_call 120;refine K.mono ?_;rintro q w2 ⟨g1,⟨v,d,hd,rfl,g2⟩,⟨r',g3⟩,g4⟩)|(go_at_call 24;refine(yI _ d _ _ _ _ auz).mono ?_;rintro q w3 ⟨v3,rfl,g5,g6⟩))
   go_ret;exact⟨wR g1 g6,⟨_,d+1,ag,rfl,g5⟩,⟨_,ql.later g3 (S:=λ_=>False) (.qw g6) (ql.lt g3) id⟩,λh=>(g4 h).below g6⟩
  |ok s'=>
   unfold uq at K;rw[hR]at K;simp only at K;clear hR;go_enter func89,ntmps89
   go_wp2_with(first|(go_at_call 120;refine K.mono ?_;rintro q w2 ⟨g1,rfl,g2⟩)|(go_at_call 24;refine(Iq _ _).mono ?_;rintro q w3 ⟨rfl,PY⟩;obtain rfl:=PY.symm))
   exact axr
 .have K:=WW B rb s t vN vS vC vT hb ht w I uX e0 (hfk ag).1 (hfk ag).2.1 (hfk ag).2.2.1 (hft ag);have HP:Hid (y_ s t=F6 s t):=by show _=_;unfold y_;rw[au ag,au ag,ax e0]
  rw[HP.out];rw[e0]at Xj;clear hfk hft Nh e0 HP;cases hR:F6 s t with
  |error e=>
   unfold uq at K;rw[hR]at K;simp only at K;clear hR;go_enter func89,ntmps89
   go_wp2_with(first|(go_at_call 121;refine K.mono ?_;rintro q w2 ⟨g1,⟨v,d,hd,rfl,g2⟩,⟨r',g3⟩,g4⟩)|(go_at_call 24;refine(yI _ d _ _ _ _ auz).mono ?_;rintro q w3 ⟨v3,rfl,g5,g6⟩))
   go_ret;exact⟨wR g1 g6,⟨_,d+1,ag,rfl,g5⟩,⟨_,ql.later g3 (S:=λ_=>False) (.qw g6) (ql.lt g3) id⟩,λh=>(g4 h).below g6⟩
  |ok s'=>
   unfold uq at K;rw[hR]at K;simp only at K;clear hR;go_enter func89,ntmps89
   go_wp2_with(first|(go_at_call 121;refine K.mono ?_;rintro q w2 ⟨g1,rfl,g2⟩)|(go_at_call 24;refine(Iq _ _).mono ?_;rintro q w3 ⟨rfl,PY⟩;obtain rfl:=PY.symm))
   exact axr
 .have K:=ZP B rb s t vN vS vC vT hb ht w I e0;have HP:Hid (y_ s t=MV s t):=by show _=_;unfold y_;rw[au ag,au ag,au ag]
  rw[HP.out];rw[e0]at Xj;clear hfk hft Nh e0 HP;cases hR:MV s t with
  |error e=>
   unfold uq at K;rw[hR]at K;simp only at K;clear hR;go_enter func89,ntmps89
   go_wp2_with(first|(go_at_call 122;refine K.mono ?_;rintro q w2 ⟨g1,⟨v,d,hd,rfl,g2⟩,⟨r',g3⟩,g4⟩)|(go_at_call 24;refine(yI _ d _ _ _ _ auz).mono ?_;rintro q w3 ⟨v3,rfl,g5,g6⟩))
   go_ret;exact⟨wR g1 g6,⟨_,d+1,ag,rfl,g5⟩,⟨_,ql.later g3 (S:=λ_=>False) (.qw g6) (ql.lt g3) id⟩,λh=>(g4 h).below g6⟩
  |ok s'=>
   unfold uq at K;rw[hR]at K;simp only at K;clear hR;go_enter func89,ntmps89
   go_wp2_with(first|(go_at_call 122;refine K.mono ?_;rintro q w2 ⟨g1,rfl,g2⟩)|(go_at_call 24;refine(Iq _ _).mono ?_;rintro q w3 ⟨rfl,PY⟩;obtain rfl:=PY.symm))
   exact axr
end
end Go.Proofs.Y
namespace Go.Proofs.Y
open Go.Proofs.Tryz
theorem J5{s:St}{t:aj}{e:Nat×Nat}(h:Ad s t=some e)(h4:e.1=4):t.length<s.sz:=by
 unfold Ad at h;split at h
 .assumption
 .split at h
  .cases h
  .exact axg
theorem aeu{s:St}{t:aj}{e:Nat×Nat}(h:y_ s t=.error e)(h4:e.1=4):t.length<s.sz:=by
 unfold y_ at h;split at h
 .unfold MR at h;split at h
  .exact axg
  .split at h
   .exact axz
   .split at h
    .exact axg
    .cases h
 .split at h
  .unfold WV at h;split at h
   .exact axz
   .split at h
    .exact axg
    .split at h
     .cases h
     .exact axg
  .split at h
   .unfold F6 at h;split at h
    .exact axz
    .split at h
     .exact axg
     .cases h
   .unfold MV at h;split at h
    .exact axg
    .split at h
     .assumption
     .cases h
def PlB(s:St):Prop:=(s.nx=0->s.pl=0)/\(s.nx=1->s.pl=32)/\(2<=s.nx->s.pl<=300040+9*s.qC.length+(if s.nx=4 then 4 else 0))
theorem Zp{s s':St}{t:aj}(h:y_ s t=.ok s'):s'.nx=s.nx/\s'.pl=s.pl/\(s.nx=1->s'.m=s.m/\s'.ln=s.ln)/\(s.nx=2->s'.ln=s.ln/\s'.qC.length=s.qC.length+(part t 0 (t.length-8)).length)/\(s.nx=3->s'=s):=by
 unfold y_ at h;split at h
 .rename_i h0;unfold MR at h;split at h
  .cases h
  .split at h
   .cases h
   .split at h
    .cases h
    .cases h;exact⟨rfl,rfl,ag,ag,ag⟩
 .split at h
  .unfold WV at h;split at h
   .cases h
   .split at h
    .cases h
    .split at h
     .cases h;exact⟨rfl,rfl,λ_=>⟨rfl,rfl⟩,ag,ag⟩
     .cases h
  .split at h
   .unfold F6 at h;split at h
    .cases h
    .split at h
     .cases h
     .cases h;exact⟨rfl,rfl,ag,λ_=>⟨rfl,aA⟩,ag⟩
   .unfold MV at h;split at h
    .cases h
    .split at h
     .cases h
     .cases h;exact⟨rfl,rfl,ag,ag,λ_=>rfl⟩
def meas(nx ln cl:Nat):Nat:=if nx=0 then 200001 else if nx=1 then 200000 else if nx=2 then 2+(ln-cl)else if nx=3 then 1 else 0
theorem Good.nx2{s:St}{Z:aj}(hG:Good s Z)(h:s.nx=2):1<=s.c/\s.qC.length<s.ln/\s.ln<=65536:=by
 cases hG with
 |frame h0 hm h1 f hf he=>exact⟨hm.head.facts.2.2.2.2.2.1,h1,hm.head.facts.2.2.2.2.2.2.2.2.2⟩
 |head h0=>omega
 |man h0=>omega
 |tail h0=>omega
 |done h0=>omega
theorem Zq(s:St)(t:aj):(tq s t).nx=zf s/\(tq s t).ln=s.ln/\(tq s t).qC=s.qC/\(tq s t).pl=s.pl+t.length:=⟨rfl,rfl,rfl,rfl⟩
theorem amv{s s':St}{Z t:aj}(hG:Good s Z)(h4:s.nx<=3)(h:y_ s t=.ok s')(ht:t.length=s.sz)(hG':Good (tq s' t) Z):meas (tq s' t).nx (tq s' t).ln (tq s' t).qC.length<meas s.nx s.ln s.qC.length:=by
 obtain⟨e1,e2,e3,e5,e6⟩:=Zp h;obtain⟨m1,m2,m3,m4⟩:=Zq s' t;rw[m1,m2,m3];have hb:=hG'.bounds;unfold zf;rw[e1];have h4':s.nx=0\/s.nx=1\/s.nx=2\/s.nx=3:=ag;rcases h4' with q|q|q|q
 .rw[q];simp[meas]
 .rw[q];by_cases qc:s'.qC.length<s'.ln
  .have hl:=hb.2.1;rw[m1,m2]at hl;unfold zf at hl;rw[e1,q]at hl;simp[qc]at hl;simp[meas,qc];omega
  .simp[meas,qc]
 .rw[q];obtain⟨h1,h2,h3⟩:=hG.nx2 q;obtain⟨h5,h6⟩:=e5 q
  have h7:1<=(part t 0 (t.length-8)).length:=by rw[qF ag,ht,sz2 q];omega
  by_cases qc:s'.qC.length<s'.ln
  .simp[meas,qc];omega
  .simp[meas,qc];omega
 .rw[q];simp[meas]
theorem PlB.next{s s':St}{t:aj}(hp:PlB s)(hm:s.m<=300000)(h4:s.nx<=3)(h:y_ s t=.ok s')(ht:t.length=s.sz)(h2:s.nx=2->1<=min s.c (s.ln-s.qC.length)):PlB (tq s' t):=by
 obtain⟨e1,e2,e3,e5,e6⟩:=Zp h;obtain⟨m1,m2,m3,m4⟩:=Zq s' t;obtain⟨p0,p1,p2⟩:=hp;unfold PlB;rw[m1,m3,m4,e2];unfold zf;rw[e1];have h4':s.nx=0\/s.nx=1\/s.nx=2\/s.nx=3:=ag;rcases h4' with q|q|q|q
 .rw[ax q];have:=p0 q;have:=sz0 q;exact⟨ag,λ_=>ag,ag⟩
 .rw[au ag,au ag];have:=p1 q;have:=sz1 q;exact ayY
 .rw[au ag,au ag];have BJ:=p2 ag;rw[au ag]at BJ;obtain⟨h5,h6⟩:=e5 q;have hz:=sz2 q;have h7:(part t 0 (t.length-8)).length=t.length-8:=qF ag;have h8:=h2 q;exact ayY
 .rw[au ag,ax q];have BJ:=p2 ag;rw[au ag]at BJ;have hz:=sz3 q;have:=e6 q;subst this;exact⟨ag,ag,λ_=>aJ⟩

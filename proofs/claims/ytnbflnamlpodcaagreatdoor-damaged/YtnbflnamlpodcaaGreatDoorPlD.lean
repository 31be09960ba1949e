import Derived.Test.YtnbflnamlpodcaaGreatDoorPrI
import Derived.Test.YtnbflnamlpodcaaGreatDoorShelf
import Derived.Lib.ItoaLen
import Derived.Test.YtnbflnamlpodcaaGreatDoorPrP
set_option maxHeartbeats 4000000
set_option maxRecDepth 100000
namespace Go.Proofs.Y
open Go.Proofs.Tryz
open Go.RowKit Go.Deep
def Pow(w:World):Prop:=Lib.TabIs prog w "internal/strconv.uint64pow10" .u64 Lib.pow10Tab
theorem aer(w:World)(k:Nat)(os:Array Obj):Below w.heap.size w (Sort.grow (w.drewN k) os):=
 ⟨rfl,rfl,rfl,ai,λi hi=>by rw[Sort.heap_grow_old _ _ (by exact hi)];rfl⟩
theorem ajP(n:Int)(h0:0<=n)(h1:n<=100000)(w:World)(h:Pow w):
  Calls prog 145 #[.int .i64 n] w λe w'=>(∃s:ByteArray,e=.returned (.string s)/\s.size<=21)/\Below w.heap.size w w':=by
 refine(Any.strconv_Itoa Tryz.lays171 n ae ae w h).mono ?_;rintro e w' ⟨rfl,k,os,rfl⟩;have hl:=Lib.itoa_length_le n ae ae;exact⟨⟨_,rfl,by simpa[ByteArray.size]using hl⟩,aer w k os⟩
section
variable (B lb b off ct:Nat)(u:List UInt8)(pl a:Nat)(vN vS:Value)(ns:List (List UInt8))(zs:List Nat)(Mc:lb<B)(RP:b<B)(L_:lb≠b)(hu:u.length<=1000000)(A7:u.length<ct)(ha:a<=u.length)(vP:pl<=1000000000000)(hns:ns.length<1000)(hzl:zs.length=ns.length)(hzs:zs.sum<=65536)(w:World)(I:LsI B w lb b off ct u pl a vN vS ns zs)
include Mc RP L_ hu A7 ha vP hns hzl hzs I in
theorem ZF:Calls prog 144 #[.pointer (some ⟨lb,0,none⟩)] w λq w'=>Gw B w lb b off ct u pl a ns zs q w':=by
 by_cases q1:u.length<a+6\/le u a 2<1\/255<le u a 2\/u.length<a+6+le u a 2
 .refine(adY B lb b off ct u pl a vN vS ns zs hu A7 ha vP w I q1).mono λq w' h=>?_
  unfold Gw xw;rw[aj q1];exact h
 .by_cases q2:0<ns.length/\uZ (part u (a+2) (le u a 2)) (ns.getD (ns.length-1) [])=true
  .refine(adZ B lb b off ct u pl a vN vS ns zs hu A7 ha vP hns w I (le u a 2) rfl ae ae ae _ rfl q2.1 q2.2).mono λq w' h=>?_
   unfold Gw xw;rw[ah q1,aj q2];exact h
  .have q2':0<ns.length->uZ (part u (a+2) (le u a 2)) (ns.getD (ns.length-1) [])=false:=λh=>by
    cases hh:uZ (part u (a+2) (le u a 2)) (ns.getD (ns.length-1) [])with
    |false=>rfl
    |true=>exact absurd ⟨h,hh⟩ q2
   by_cases q3:65536<zs.sum+le u (a+2+le u a 2) 4
   .refine(ad1 B lb b off ct u pl a vN vS ns zs hu A7 ha vP hns hzs w I (le u a 2) rfl ae ae ae _ rfl _ rfl q3 q2').mono λq w' h=>?_
    unfold Gw xw;rw[ah q1,ah q2,aj q3];have e:a+2+le u a 2=a+(2+le u a 2):=ae;simp only;rw[e];exact h
   .refine(ad3 B lb b off ct u pl a vN vS ns zs Mc RP L_ hu A7 ha vP hns hzl hzs w I (le u a 2) rfl ae ae ae _ rfl _ rfl ae q2').mono λq w' h=>?_
    unfold Gw xw;rw[ah q1,ah q2,ah q3];exact h
end
theorem Pow.but{w w':World}{B:Nat}{S:Nat->Prop}(h:Pow w)(hb:ru B S w w')(hB:∀k,k<5->k<B/\¬S k):Pow w':=by
 have hg:∃g,g<5/\prog.globalNamed "internal/strconv.uint64pow10" =some g:=by exact⟨4,au,ag⟩
 obtain⟨g,aqT,hg⟩:=hg;unfold Pow Lib.TabIs World.var? at h⊢;rw[hg]at h⊢;simp only[fB]at h⊢;rw[hb.block g (hB g aqT).1 (hB g aqT).2];exact h
def OV(B:Nat)(w:World)(lb b off ct:Nat)(u:List UInt8)(pl:Nat)(q:Ending)(w':World):Prop:=
 ru B (· =lb) w w'/\match zV u with
 | .error p=>∃v d,d<=1/\q=.returned v/\sG w' d v 7 (pl+p)
 | .ok (ns,zs)=>q=.returned .nilIface/\∃vN vS a,LsI B w' lb b off ct u pl a vN vS ns zs
section
variable (B lb b off ct:Nat)(u:List UInt8)(pl:Nat)(Mc:lb<B)(RP:b<B)(L_:lb≠b)(hu4:4<=u.length)(hu:u.length<=1000000)(A7:u.length<ct)(vP:pl<=1000000000000)(w:World)(I:LsI B w lb b off ct u pl 0 (.slice none 0 0) (.slice none 0 0) [] [])(hP:Pow w)(ar8:5<=lb)
include Mc RP L_ hu4 hu A7 vP I hP ar8 in
theorem Qo:Calls prog 137 #[.pointer (some ⟨lb,0,none⟩)] w λq w'=>OV B w lb b off ct u pl q w':=by
 have c0:=qf.cell I.ls (i:=0) rfl;have c2:=qf.cell I.ls (i:=2) rfl;have f2:=qf.frozen I.ls 2;have e4:(part u 0 4).length=4:=qF ae
 have KO:le (part u 0 4) 0 4=le u 0 4:=by simp only[le];rw[uV ae,uV ae,uV ae,uV ae]
 have K4:=λcap=>wY b off 4 cap (part u 0 4) e4 ae w (by have:=I.IW.part (a:=0) (n:=4) ae;exact this)
 rw[KO]at K4;have ar9:le u 0 4<2^32:=Rn u 4 0;obtain⟨N,eN⟩:∃N,le u 0 4=N:=⟨_,rfl⟩;rw[eN]at K4 ar9;by_cases q1:1000<N
 .have HL:Hid (zV u=.error 0):=by show _=_;unfold zV;rw[eN,aj q1]
  have KW:=Bq lb _ pl 0 _ _ _ vP ae w I.ls 0 0 pl rfl ae ae;clear e4 KO eN;go_enter func137,ntmps137
  go_wp2_with(first|(go_at_call 141;refine(K4 _).mono ?_;rintro q w' ⟨rfl,tH⟩;obtain rfl:=tH.symm)|(go_at_call 143;refine KW.mono ?_;rintro q w2 ⟨v,rfl,g1,g2⟩))
  go_ret;refine⟨(ru.qm g2).mono I.size (λ_ x=>x),?_⟩;rw[HL.out];exact⟨_,0,ae,rfl,g1⟩
 .have HL:Hid (zV u=yX u N 4 [] []):=by show _=_;unfold zV;rw[eN,ah q1]
  have J0:LsJ B w w lb b off ct u pl 0 (.slice none 0 0) (.slice none 0 0) [] [] 0:=⟨I.ls,I.on,I.os,I.ap,I.IW,I.size,ru.refl _ _ _⟩;have J1:=J0.ajQ Mc RP L_ 4;clear J0 I e4 KO eN;go_enter func137,ntmps137
  go_wp2_with(first|(go_at_call 141;refine(K4 _).mono ?_;rintro q w' ⟨rfl,tH⟩;obtain rfl:=tH.symm))
  have J2:LsJ B w (w.setCell ⟨lb,2,none⟩ (.int .i64 4)) lb b off ct u pl 4 (.slice none 0 0) (.slice none 0 0) [] [] 0:=J1;clear J1 K4 c0 c2 f2;generalize w.setCell ⟨lb,2,none⟩ (.int .i64 4)=w1 at J2⊢
  go_loopw [21] (λvi wr=>∃(c a:Nat)(ns:List (List UInt8))(zs:List Nat)(vN vS:Value),c<=N/\a<=u.length/\vi=.int .i64 (c:Int)/\Hid (ns.length=c)/\Hid (zs.length=ns.length)/\Hid (zs.sum<=65536)/\LsI B wr lb b off ct u pl a vN vS ns zs/\ru B (· =lb) w wr/\Hid (zV u=yX u (N-c) a ns zs)) (λi _=>N-(intOf i).toNat)
  case atStart=>exact⟨0,4,[],[],_,_,ae,hu4,rfl,rfl,rfl,(show([]:List Nat).sum<=65536 by simp),⟨J2.ls,J2.on,J2.os,J2.ap,J2.IW,J2.size⟩,J2.but,HL⟩
  case round=>
   obtain⟨c,a,ns,zs,vN,vS,hc,ha,rfl,H1,H2,H3,I,hb,HR⟩:=hrel;clear J2 HL;have hPr:Pow wr:=hP.but hb (λk hk=>⟨ae,ae⟩);by_cases qE:c<N
   .have K:=ZF B lb b off ct u pl a vN vS ns zs Mc RP L_ hu A7 ha vP (by rw[H1.out];omega) H2.out H3.out wr I;unfold Gw at K
    have HR2:Hid (zV u=match xw u a ns zs with| .error p=>.error p| .ok (nm,z)=>yX u (N-(c+1)) (a+(6+nm.length)) (ns++[nm]) (zs++[z])):=by
     show _=_;rw[HR.out,show N-c=(N-(c+1))+1 by omega,yX]
     all_goals rfl
    cases Ns:xw u a ns zs with
    |error p=>
     rw[Ns]at K HR2;simp only at K HR2;have hsz:=I.size;clear HR I Ns
     go_wp2_with(first|(go_at_call 144;refine K.mono ?_;rintro q w2 ⟨v,rfl,g1,g2⟩;have hP2:=hPr.but (S:=λ_=>False) (.qm g2) (λk hk=>⟨ae,id⟩);obtain⟨ty,x,rfl⟩:=g1.iface)|(go_at_call 145;refine(ajP _ ae ae _ (by exact hP2)).mono ?_;rintro q w3 ⟨⟨s3,rfl,xu⟩,g3⟩;have g4:=g1.under g3)|(go_at_call 37;refine(yD _ 0 _ 7 (pl+p) _ (by exact g4)).mono ?_;rintro q w5 ⟨v5,rfl,g5,g6⟩))
     go_ret;have h2s:=g2.size;have h3s:=g3.size;refine⟨hb.trans ((ru.qm (g2.mono hsz)).trans ((ru.qm (g3.mono ae)).trans (.qm (g6.mono ae)))),?_⟩;rw[HR2.out];exact⟨_,1,ae,rfl,g5⟩
    |ok x=>
     obtain⟨nm,z⟩:=x;rw[Ns]at K HR2;simp only at K HR2;have t_:=Ns;unfold xw at t_
     have hsum:zs.sum+z<=65536/\a+(6+nm.length)<=u.length:=by
      split at t_
      .cases t_
      .split at t_
       .cases t_
       .split at t_
        .cases t_
        .cases t_;refine⟨ae,?_⟩;rw[qF ae];omega
     have HS:Hid (zs.sum+z<=65536):=hsum.1;have ha2:=hsum.2;clear HR I Ns t_ hsum H3
     go_wp2_with(first|(go_at_call 144;refine K.mono ?_;rintro q w2 ⟨rfl,g1,vN2,vS2,g2⟩))
     go_roundw
     case rel=>exact⟨c+1,_,ns++[nm],zs++[z],vN2,vS2,ae,ha2,aW,(show(ns++[nm]).length=c+1 by rw[aS,H1.out];rfl),(show(zs++[z]).length=(ns++[nm]).length by rw[aS,aS,H2.out];rfl),(show(zs++[z]).sum<=65536 by rw[iG];have:=HS.out;simpa using this),g2,hb.trans g1,HR2⟩
     case measure=>simp[intOf];omega
   .obtain rfl:c=N:=ae
    have HR2:Hid (zV u=if a<u.length then .error a else .ok (ns,zs)):=by show _=_;rw[HR.out,kD,yX]
    have c0:=qf.cell I.ls (i:=0) rfl;have c2:=qf.cell I.ls (i:=2) rfl;have KW:=λn=>Bq lb _ pl a _ _ _ vP ae (wr.drewN n) (I.ls.drewN n) 0 0 (pl+a) rfl ae ae
    have hsz:=I.size;by_cases q2:a<u.length
    .have HX:Hid (zV u=.error a):=by show _=_;rw[HR2.out,aj q2]
     clear HR HR2 I
     go_wp2_with fail
     go_big_quiet (fail)
     go_wp2_with(first|(go_at_call 143;refine(KW _).mono ?_;rintro q w2 ⟨v,rfl,g1,g2⟩))
     go_ret;have g3:Below wr.heap.size wr w2:=⟨g2.os,g2.tape,g2.output,g2.size,g2.block⟩;refine⟨hb.trans (.qm (g3.mono hsz)),?_⟩;rw[HX.out];exact⟨_,0,ae,rfl,g1⟩
    .have HX:Hid (zV u=.ok (ns,zs)):=by show _=_;rw[HR2.out,ah q2]
     have I':=λn=>I.drewN n
     clear HR HR2 KW I
     go_wp2_with fail
     go_big_quiet (fail)
     go_wp2;go_ret;refine⟨hb.drewN _,?_⟩;rw[HX.out];exact⟨rfl,vN,vS,a,I' _⟩
end
theorem Bv{w:World}{B B' e n:Nat}{v:Value}{xs:List Value}(h:w.ownsRow B' e 1 v n xs)(hB:B<=B'):w.ownsRow B e 1 v n xs:=by
 refine⟨h.1,?_⟩;rcases h.2 with x|⟨g,cap,cur,e1,h1,h2⟩
 .exact .inl x
 .exact .inr ⟨g,cap,cur,e1,aJ hB h1,h2⟩
theorem RI.lists{B rb:Nat}{w:World}{s:St}{t:List UInt8}{vN vS vC vT Vj Vk:Value}{ns:List (List UInt8)}{zs:List Nat}(I:RI B w rb s t vN vS vC vT)(hn:w.ownsRow B 9 1 Vj ns.length (Dk ns))(hs:w.ownsRow B 3 1 Vk zs.length (zF zs))(tt:Nat):
  RI B (((w.setCell ⟨rb,4,none⟩ Vj).setCell ⟨rb,5,none⟩ Vk).setCell ⟨rb,9,none⟩ (.int .i64 (tt:Int))) rb {s with ns:=ns,zs:=zs,tt:=tt} t Vj Vk vC vT/\ru w.heap.size (· =rb) w (((w.setCell ⟨rb,4,none⟩ Vj).setCell ⟨rb,5,none⟩ Vk).setCell ⟨rb,9,none⟩ (.int .i64 (tt:Int))):=by
 have hB:ru w.heap.size (· =rb) w (((w.setCell ⟨rb,4,none⟩ Vj).setCell ⟨rb,5,none⟩ Vk).setCell ⟨rb,9,none⟩ (.int .i64 (tt:Int))):=(((ru.refl w.heap.size (· =rb) w).setCell (p:=⟨rb,4,none⟩) (.inr rfl) Vj).setCell (p:=⟨rb,5,none⟩) (.inr rfl) Vk).setCell (p:=⟨rb,9,none⟩) (.inr rfl) _;have key:∀{e n:Nat}{v:Value}{xs:List Value},w.ownsRow B e 1 v n xs->e≠122->(((w.setCell ⟨rb,4,none⟩ Vj).setCell ⟨rb,5,none⟩ Vk).setCell ⟨rb,9,none⟩ (.int .i64 (tt:Int))).ownsRow B e 1 v n xs:=λh he=>vI h (λg uB=>hB.block g (h.lt g uB).2 (λe=>uC h I.rd he (by rw[uB,e])))
 have hR:xR (((w.setCell ⟨rb,4,none⟩ Vj).setCell ⟨rb,5,none⟩ Vk).setCell ⟨rb,9,none⟩ (.int .i64 (tt:Int))) rb (({s with ns:=ns,zs:=zs,tt:=tt}:St).rd Vj Vk vC vT .nilIface):=((qf.set I.rd 4 Vj).set 5 Vk).set 9 (.int .i64 (tt:Int));exact⟨⟨hR,key hn au,key hs au,key I.oc au,key I.ot au,I.ap,aJ I.size hB.size⟩,hB⟩
theorem RI.ao6{B rb:Nat}{w w1:World}{s:St}{t:List UInt8}{vN vS vC vT v1:Value}(I:RI B w rb s t vN vS vC vT)(hb:Below w.heap.size w w1)(h1:rG B w1 v1 [])(hk:v1.ownBlock=some w.heap.size):
  RI B (w1.setCell ⟨rb,6,none⟩ v1) rb {s with qy:=[]} t vN vS v1 vT/\ru w.heap.size (· =rb) w (w1.setCell ⟨rb,6,none⟩ v1)/\w1.cell? ⟨rb,6,none⟩=some vC/\w1.frozen? ⟨rb,6,none⟩=false:=by
 have I1:=I.below hb;have Fh:xR (w1.setCell ⟨rb,6,none⟩ v1) rb (({s with qy:=[]}:St).rd vN vS v1 vT .nilIface):=qf.set I1.rd 6 v1;refine⟨⟨Fh,uO I1.on (uC I1.on I1.rd au),uO I1.os (uC I1.os I1.rd au),uO h1 (uC h1 I1.rd au),uO I1.ot (uC I1.ot I1.rd au),?_,?_⟩,?_,qf.cell I1.rd (i:=6) rfl,qf.frozen I1.rd 6⟩
 .intro g Rz SV;have h2:=(eQ I.ot g SV).2;rw[hk]at Rz;cases Rz;omega
 .have:=I1.size;exact aww
 .exact ru.setCell (S:=(· =rb)) (ru.qm hb) (p:=⟨rb,6,none⟩) (.inr rfl) v1
section
variable (B rb:Nat)(s:St)(t:List UInt8)(vN vS vC vT:Value)(hb:Bd s)(ht:t.length<=s.sz)(w:World)(I:RI B w rb s t vN vS vC vT)(uN:CQ w)(hPow:Pow w)(h16:5<=w.heap.size)
include hb ht I uN hPow h16 in
theorem Qp(NG:s.nx=1)(JR:1<=s.k)(O3:s.k<=128)(hm4:4<=s.m):Calls prog 131 #[.pointer (some ⟨rb,0,none⟩)] w λq w'=>ui B w rb s t vN vS vC vT (TJ s t) 1 q w':=by
 obtain⟨bc,cc,eC,hcc⟩:=I.oc.slice;obtain⟨bt,ct,eT,A7⟩:=I.ot.slice;have hz:=St.Yc hb;have KS:=JI rb (s.rd vN vS vC vT .nilIface) bc s.qy.length cc eC lM lT lQ hb.qy mZ t bt ct eT ae lL w I.rd I.ot.lies uN;have hsz:yB s.nx s.c s.m s.ln s.qy.length=s.sz:=rfl;simp only[St.rd,hsz]at KS;have hSP:LV s.sz s.pl t=yO s t:=rfl;simp only[hSP]at KS;unfold TJ;cases VM:yO s t with
 |some e=>
  unfold zx at KS;rw[VM]at KS;simp only at KS⊢;clear VM;go_enter func131,ntmps131
  go_wp2_with(first|(go_at_call 135;refine KS.mono ?_;rintro q w2 ⟨v,rfl,g1,g2⟩;obtain⟨ty,x,rfl⟩:=g1.iface))
  go_ret;exact ui.fault I (fC _) g1 g2
 |none=>
  unfold zx at KS;rw[VM]at KS;simp only at KS⊢;have w_:=sz1 NG
  have hl8:t.length=s.sz:=by
   unfold yO at VM;split at VM
   .cases VM
   .omega
  obtain⟨b,off,ebt,hB,hbr⟩:∃b off,bt=some ⟨b,off,none⟩/\CS w b off t/\b≠rb:=by exact axv
  subst ebt;have em:t.length-8=s.m:=ae;have hu:(part t 0 s.m).length=s.m:=qF ae;have hBu:CS w b off (part t 0 s.m):=by have:=hB.part (a:=0) (n:=s.m) ae;exact this
  rw[em]at KS⊢;have vP:=hb.pl;have hm:=hb.m;have TF:=qf.cell I.rd (i:=11) rfl;simp only[St.rd]at TF;obtain⟨pl,WT⟩:∃pl,s.pl=pl:=⟨_,rfl⟩;obtain⟨m,emm⟩:∃m,s.m=m:=⟨_,rfl⟩;obtain⟨u,eu⟩:∃u,part t 0 s.m=u:=⟨_,rfl⟩;rw[eu]at hu hBu⊢;rw[WT]at TF vP⊢;rw[emm]at KS hu hm hm4;clear VM hl8 hsz hSP;have am_:∀j,Pow (w.drewN j):=λj=>hPow.but (S:=λ_=>False) (B:=w.heap.size) ((ru.refl _ _ _).drewN j) (λk hk=>⟨ae,id⟩)
  have facts:∀j w2,w2=w.drewN j->RI B w2 rb s t vN vS vC vT/\w2.cell? ⟨rb,11,none⟩=some (.int .i64 (pl:Int))/\Pow w2/\5<=w2.heap.size/\ru w.heap.size (λ_=>False) w w2/\CS w2 b off u/\w.heap.size=w2.heap.size:=by rintro j w2 rfl;exact⟨I.drewN j,by simpa using TF,am_ j,h16,(ru.refl _ _ _).drewN j,hBu,rfl⟩
  clear am_ TF hBu hPow uN;cases hL:zV u with
  |error p=>
   simp only;go_enter func131,ntmps131
   go_upto_region 5 with(first|(go_at_call 135;refine KS.mono ?_;rintro q w2 ⟨rfl,j,xG⟩;obtain⟨I2,TF,hP2,ajR,sZ,Ae,zD⟩:=facts j w2 xG;have HS2:Hid (w.heap.size=w2.heap.size):=zD;clear xG zD facts I hB KS))
   have Px:=(aA w2.heap.size w2).alloc (ak _) (.cells (lsL (.slice (some ⟨b,off,none⟩) m ct) pl 0 (.slice none 0 0) (.slice none 0 0) 0).toArray 222);have VX:DU (w2.alloc (.cells (lsL (.slice (some ⟨b,off,none⟩) m ct) pl 0 (.slice none 0 0) (.slice none 0 0) 0).toArray 222)) w2.heap.size (.slice (some ⟨b,off,none⟩) m ct) pl 0 (.slice none 0 0) (.slice none 0 0) 0:=qf.made w2 _ _;have xu:w2.heap.size<(w2.alloc (.cells (lsL (.slice (some ⟨b,off,none⟩) m ct) pl 0 (.slice none 0 0) (.slice none 0 0) 0).toArray 222)).heap.size:=ai;have Ns:b<w2.heap.size:=rM (Ae 0 ae);unfold lsL at Px VX xu;generalize Pv:w2.alloc _=w3 at Px VX xu⊢;clear Pv;have Ny:CS w3 b off u:=Ae.later (S:=λ_=>False) (.qm Px) Ns id;have hP3:Pow w3:=hP2.but (S:=λ_=>False) (.qm Px) (λk hk=>⟨ae,id⟩);rw[<-hu]at VX;have LI:LsI w3.heap.size w3 w2.heap.size b off ct u pl 0 (.slice none 0 0) (.slice none 0 0) [] []:=⟨VX,dh _ _ _ _,dh _ _ _ _,λg hg=>atQ,Ny,ak _⟩;have KL:=Qo w3.heap.size w2.heap.size b off ct u pl xu ae ae ae ae ae ae w3 LI hP3 ajR;unfold OV at KL;have JS:∀w4,ru w3.heap.size (· =w2.heap.size) w3 w4->Below w2.heap.size w2 w4:=λw4 h=>Px.trans ⟨h.os,h.tape,h.output,h.size,λk hk=>h.block k ae ae⟩
   have hfw:∀w4,Below w2.heap.size w2 w4->Below w.heap.size w w4:=λw4 h=>(sZ.below (λ_ _=>id)).trans (h.mono au3)
   rw[hL]at KL;simp only at KL;have HLZ:=HS2;clear hL LI VX
   go_wp2_with(first|(go_at_call 137;refine KL.mono ?_;rintro q w4 ⟨g1,v,d,hd,rfl,g2⟩;obtain⟨ty,x,rfl⟩:=g2.iface))
   go_ret;have I4:=I2.below (JS _ g1);exact⟨.qm (hfw _ (JS _ g1)),⟨_,d,hd,rfl,g2⟩,⟨_,I4.rd⟩,λh=>eP⟩
  |ok x=>
   obtain⟨ns,zs⟩:=x;simp only
   have aqU:Hid (zs.sum<=65536):=by
    show _<=_;unfold zV at hL;split at hL
    .cases hL
    .exact JW _ _ _ _ _ ai hL
   by_cases qn:s.ln=tX s.k zs.sum
   .rw[aj qn];go_enter func131,ntmps131
    go_upto_region 5 with(first|(go_at_call 135;refine KS.mono ?_;rintro q w2 ⟨rfl,j,xG⟩;obtain⟨I2,TF,hP2,ajR,sZ,Ae,zD⟩:=facts j w2 xG;have HS2:Hid (w.heap.size=w2.heap.size):=zD;clear xG zD facts I hB KS))
    have Px:=(aA w2.heap.size w2).alloc (ak _) (.cells (lsL (.slice (some ⟨b,off,none⟩) m ct) pl 0 (.slice none 0 0) (.slice none 0 0) 0).toArray 222);have VX:DU (w2.alloc (.cells (lsL (.slice (some ⟨b,off,none⟩) m ct) pl 0 (.slice none 0 0) (.slice none 0 0) 0).toArray 222)) w2.heap.size (.slice (some ⟨b,off,none⟩) m ct) pl 0 (.slice none 0 0) (.slice none 0 0) 0:=qf.made w2 _ _;have xu:w2.heap.size<(w2.alloc (.cells (lsL (.slice (some ⟨b,off,none⟩) m ct) pl 0 (.slice none 0 0) (.slice none 0 0) 0).toArray 222)).heap.size:=ai;have Ns:b<w2.heap.size:=rM (Ae 0 ae);unfold lsL at Px VX xu;generalize Pv:w2.alloc _=w3 at Px VX xu⊢;clear Pv;have Ny:CS w3 b off u:=Ae.later (S:=λ_=>False) (.qm Px) Ns id;have hP3:Pow w3:=hP2.but (S:=λ_=>False) (.qm Px) (λk hk=>⟨ae,id⟩);rw[<-hu]at VX;have LI:LsI w3.heap.size w3 w2.heap.size b off ct u pl 0 (.slice none 0 0) (.slice none 0 0) [] []:=⟨VX,dh _ _ _ _,dh _ _ _ _,λg hg=>atQ,Ny,ak _⟩;have KL:=Qo w3.heap.size w2.heap.size b off ct u pl xu ae ae ae ae ae ae w3 LI hP3 ajR;unfold OV at KL;have JS:∀w4,ru w3.heap.size (· =w2.heap.size) w3 w4->Below w2.heap.size w2 w4:=λw4 h=>Px.trans ⟨h.os,h.tape,h.output,h.size,λk hk=>h.block k ae ae⟩
    have hfw:∀w4,Below w2.heap.size w2 w4->Below w.heap.size w w4:=λw4 h=>(sZ.below (λ_ _=>id)).trans (h.mono au3)
    rw[hL]at KL;simp only at KL;clear hL LI VX
    go_upto_region 8 with(first|(go_at_call 137;refine KL.mono ?_;rintro q w4 ⟨g1,rfl,vN2,vS2,a2,g2⟩))
    have I4:=I2.below (JS _ g1);have Ib:=hfw _ (JS _ g1);have d3:=qf.cell g2.ls (i:=3) rfl;have d4:=qf.cell g2.ls (i:=4) rfl;have d5:=qf.cell g2.ls (i:=5) rfl;have c4:=qf.cell I4.rd (i:=4) rfl;have c5:=qf.cell I4.rd (i:=5) rfl;have c9:=qf.cell I4.rd (i:=9) rfl;have f0:=qf.frozen I4.rd;obtain⟨bn,cn,en⟩:=uH g2.on;obtain⟨bz,cz,ez⟩:=uH g2.os;subst en ez
    go_upto_region 9 with(fail)
    obtain⟨I5,hB5⟩:=I4.lists (Bv g2.on pX) (Bv g2.os pX) zs.sum;have hB6:ru w.heap.size (qO rb vC vT) w _:=(ru.qm Ib).trans (hB5.mono Ib.size (λ_ x=>.inl x));clear d3 d4 d5 c4 c5 c9 f0 I4 hB5;generalize(((w4.setCell ⟨rb,4,none⟩ (.slice bn ns.length cn)).setCell ⟨rb,5,none⟩ (.slice bz zs.length cz)).setCell ⟨rb,9,none⟩ (.int .i64 (zs.sum:Nat)))=w5 at I5 hB6⊢;have c0:=qf.cell I5.rd (i:=0) rfl;have c8:=qf.cell I5.rd (i:=8) rfl;have c9:=qf.cell I5.rd (i:=9) rfl;simp only[St.rd]at c0 c8 c9;have O0:=hb.ln;have KC:=λj=>EL (s.k:Int) (zs.sum:Int) s.k zs.sum rfl rfl JR ae aqU.out (w5.drewN j)
    obtain⟨Z,eZ⟩:∃Z,zs.sum=Z:=⟨_,rfl⟩;obtain⟨LN,eLN⟩:∃LN,s.ln=LN:=⟨_,rfl⟩;rw[eZ]at c9 KC;rw[eLN]at c8 O0;obtain⟨LC,eLC⟩:∃LC,tX s.k Z=LC:=⟨_,rfl⟩;simp only[eLC]at KC;have HZ:Hid (zs.sum=Z):=eZ;obtain rfl:LN=LC:=by rw[<-eLN,qn,eZ,eLC]
    clear eZ eLC qn
    go_wp2_with fail
    go_big_quiet (first|(go_at_call 77;exact(KC _).mono (λ_ _ h=>⟨h.1,_,h.2⟩)))
    obtain⟨i0,Af,x_,ar_,asa⟩:=bG Dc;obtain⟨w6,hmk,ho6,hg6⟩:=run_make_own (P:=prog) (w5.drewN nq) B 34 5 i0 (.int .u8 0) 1 underlying34 Af x_ ar_ .i64 .i64 LN (by rw[asa];omega) bH I5.size;have hb6:Below w5.heap.size w5 w6:=yE ((aA (w5.drewN nq).heap.size (w5.drewN nq)).grown hg6 (ak _) (λk hk=>by cases hk));obtain⟨I6,hB7,x6,f6⟩:=I5.ao6 hb6 (rG.of ho6) rfl;go_wp2;subst emm eLN WT;rw[NG]at I6;rw[<-eC,<-eT];go_ret;refine⟨hB6.trans (hB7.mono hB6.size (λ_ x=>.inl x)),rfl,_,_,_,I6,.inr ⟨_,rfl,hB6.size⟩⟩
   .rw[ah qn];go_enter func131,ntmps131
    go_upto_region 5 with(first|(go_at_call 135;refine KS.mono ?_;rintro q w2 ⟨rfl,j,xG⟩;obtain⟨I2,TF,hP2,ajR,sZ,Ae,zD⟩:=facts j w2 xG;have HS2:Hid (w.heap.size=w2.heap.size):=zD;clear xG zD facts I hB KS))
    have Px:=(aA w2.heap.size w2).alloc (ak _) (.cells (lsL (.slice (some ⟨b,off,none⟩) m ct) pl 0 (.slice none 0 0) (.slice none 0 0) 0).toArray 222);have VX:DU (w2.alloc (.cells (lsL (.slice (some ⟨b,off,none⟩) m ct) pl 0 (.slice none 0 0) (.slice none 0 0) 0).toArray 222)) w2.heap.size (.slice (some ⟨b,off,none⟩) m ct) pl 0 (.slice none 0 0) (.slice none 0 0) 0:=qf.made w2 _ _;have xu:w2.heap.size<(w2.alloc (.cells (lsL (.slice (some ⟨b,off,none⟩) m ct) pl 0 (.slice none 0 0) (.slice none 0 0) 0).toArray 222)).heap.size:=ai;have Ns:b<w2.heap.size:=rM (Ae 0 ae);unfold lsL at Px VX xu;generalize Pv:w2.alloc _=w3 at Px VX xu⊢;clear Pv;have Ny:CS w3 b off u:=Ae.later (S:=λ_=>False) (.qm Px) Ns id;have hP3:Pow w3:=hP2.but (S:=λ_=>False) (.qm Px) (λk hk=>⟨ae,id⟩);rw[<-hu]at VX;have LI:LsI w3.heap.size w3 w2.heap.size b off ct u pl 0 (.slice none 0 0) (.slice none 0 0) [] []:=⟨VX,dh _ _ _ _,dh _ _ _ _,λg hg=>atQ,Ny,ak _⟩;have KL:=Qo w3.heap.size w2.heap.size b off ct u pl xu ae ae ae ae ae ae w3 LI hP3 ajR;unfold OV at KL;have JS:∀w4,ru w3.heap.size (· =w2.heap.size) w3 w4->Below w2.heap.size w2 w4:=λw4 h=>Px.trans ⟨h.os,h.tape,h.output,h.size,λk hk=>h.block k ae ae⟩
    have hfw:∀w4,Below w2.heap.size w2 w4->Below w.heap.size w w4:=λw4 h=>(sZ.below (λ_ _=>id)).trans (h.mono au3)
    rw[hL]at KL;simp only at KL;clear hL LI VX
    go_upto_region 8 with(first|(go_at_call 137;refine KL.mono ?_;rintro q w4 ⟨g1,rfl,vN2,vS2,a2,g2⟩))
    have I4:=I2.below (JS _ g1);have Ib:=hfw _ (JS _ g1);have d3:=qf.cell g2.ls (i:=3) rfl;have d4:=qf.cell g2.ls (i:=4) rfl;have d5:=qf.cell g2.ls (i:=5) rfl;have c4:=qf.cell I4.rd (i:=4) rfl;have c5:=qf.cell I4.rd (i:=5) rfl;have c9:=qf.cell I4.rd (i:=9) rfl;have f0:=qf.frozen I4.rd;obtain⟨bn,cn,en⟩:=uH g2.on;obtain⟨bz,cz,ez⟩:=uH g2.os;subst en ez
    go_upto_region 9 with(fail)
    obtain⟨I5,hB5⟩:=I4.lists (Bv g2.on pX) (Bv g2.os pX) zs.sum;have hB6:ru w.heap.size (qO rb vC vT) w _:=(ru.qm Ib).trans (hB5.mono Ib.size (λ_ x=>.inl x));clear d3 d4 d5 c4 c5 c9 f0 I4 hB5;generalize(((w4.setCell ⟨rb,4,none⟩ (.slice bn ns.length cn)).setCell ⟨rb,5,none⟩ (.slice bz zs.length cz)).setCell ⟨rb,9,none⟩ (.int .i64 (zs.sum:Nat)))=w5 at I5 hB6⊢;have c0:=qf.cell I5.rd (i:=0) rfl;have c8:=qf.cell I5.rd (i:=8) rfl;have c9:=qf.cell I5.rd (i:=9) rfl;simp only[St.rd]at c0 c8 c9;have O0:=hb.ln;have KC:=λj=>EL (s.k:Int) (zs.sum:Int) s.k zs.sum rfl rfl JR ae aqU.out (w5.drewN j)
    obtain⟨Z,eZ⟩:∃Z,zs.sum=Z:=⟨_,rfl⟩;obtain⟨LN,eLN⟩:∃LN,s.ln=LN:=⟨_,rfl⟩;rw[eZ]at c9 KC;rw[eLN]at c8 O0;obtain⟨LC,eLC⟩:∃LC,tX s.k Z=LC:=⟨_,rfl⟩;simp only[eLC]at KC;have HZ:Hid (zs.sum=Z):=eZ
    have hne:((LN:Int)==(LC:Int))=false:=by
     have:LN≠LC:=λe=>qn (by rw[eLN,e,<-eLC,<-eZ])
     simp;omega
    have atK:((LN:Int) != (LC:Int))=true:=by
     have:LN≠LC:=λe=>qn (by rw[eLN,e,<-eLC,<-eZ])
     simp;omega
    clear eZ eLC qn
    go_wp2_with fail
    go_big_quiet (first|(go_at_call 77;exact(KC _).mono (λ_ _ h=>⟨h.1,_,h.2⟩)))
    go_wp2_with(first|(go_at_call 64;refine(Am _ _ 7 18 ax ax _).mono ?_;rintro q w7 ⟨v,rfl,h1,h2⟩))
    go_ret;have h3:=yE h2;exact⟨hB6.trans (.qm (h3.mono hB6.size)),⟨_,0,fC _,rfl,h1⟩,⟨_,(I5.below h3).rd⟩,λh=>eP⟩
end
structure Fit(s:St):Prop where
 bd:Bd s
 nx:s.nx<=3
 k:s.nx≠0->1<=s.k/\s.k<=128/\s.i<=128/\4<=s.m
 tt:2<=s.nx->s.tt<=65536
theorem wM{w w' w'':World}{S:Nat->Prop}(h:ru w.heap.size S w w')(hb:Below w'.heap.size w' w''):ru w.heap.size S w w'':=h.trans (.qm (hb.mono h.size))
section
variable (B rb:Nat)(s:St)(t:List UInt8)(vN vS vC vT:Value)(hF:Fit s)(ht:t.length<=s.sz)(w:World)(I:RI B w rb s t vN vS vC vT)(uN:CQ w)(hPow:Pow w)(h16:5<=w.heap.size)
include hF ht I uN hPow h16 in
theorem Yd:Calls prog 122 #[.pointer (some ⟨rb,0,none⟩)] w λq w'=>ui B w rb s t vN vS vC vT (uX s t) 2 q w':=by
 have hb:=hF.bd;have Xf:=qf.cell I.rd (i:=10) rfl;simp only[St.rd]at Xf;have NG:=hF.nx;have hfk:=hF.k;have hft:=hF.tt;have h4:s.nx=0\/s.nx=1\/s.nx=2\/s.nx=3:=ae;rcases h4 with e0|e0|e0|e0
 .have K:=ZG B rb s t vN vS vC vT hb ht w I uN e0;have HP:Hid (uX s t=IK s t):=by show _=_;unfold uX;rw[aj e0]
  rw[HP.out];rw[e0]at Xf;clear hfk hft NG e0 HP;cases hR:IK s t with
  |error e=>
   unfold ui at K;rw[hR]at K;simp only at K;clear hR;go_enter func122,ntmps122
   go_wp2_with(first|(go_at_call 130;refine K.mono ?_;rintro q w2 ⟨g1,⟨v,d,hd,rfl,g2⟩,⟨r',g3⟩,g4⟩)|(go_at_call 37;refine(yD _ d _ _ _ _ Rt).mono ?_;rintro q w3 ⟨v3,rfl,g5,g6⟩))
   go_ret;exact⟨wM g1 g6,⟨_,d+1,ae,rfl,g5⟩,⟨_,qf.later g3 (S:=λ_=>False) (.qm g6) (qf.lt g3) id⟩,λh=>(g4 h).below g6⟩
  |ok s'=>
   unfold ui at K;rw[hR]at K;simp only at K;clear hR;go_enter func122,ntmps122
   go_wp2_with(first|(go_at_call 130;refine K.mono ?_;rintro q w2 ⟨g1,rfl,g2⟩)|(go_at_call 37;refine(H7 _ _).mono ?_;rintro q w3 ⟨rfl,Pv⟩;obtain rfl:=Pv.symm))
   exact awM
 .have K:=Qp B rb s t vN vS vC vT hb ht w I uN hPow h16 e0 (hfk ae).1 (hfk ae).2.1 (hfk ae).2.2.2;have HP:Hid (uX s t=TJ s t):=by show _=_;unfold uX;rw[ah ae,aj e0]
  rw[HP.out];rw[e0]at Xf;clear hfk hft NG e0 HP;cases hR:TJ s t with
  |error e=>
   unfold ui at K;rw[hR]at K;simp only at K;clear hR;go_enter func122,ntmps122
   go_wp2_with(first|(go_at_call 131;refine K.mono ?_;rintro q w2 ⟨g1,⟨v,d,hd,rfl,g2⟩,⟨r',g3⟩,g4⟩)|(go_at_call 37;refine(yD _ d _ _ _ _ Rt).mono ?_;rintro q w3 ⟨v3,rfl,g5,g6⟩))
   go_ret;exact⟨wM g1 g6,⟨_,d+1,ae,rfl,g5⟩,⟨_,qf.later g3 (S:=λ_=>False) (.qm g6) (qf.lt g3) id⟩,λh=>(g4 h).below g6⟩
  |ok s'=>
   unfold ui at K;rw[hR]at K;simp only at K;clear hR;go_enter func122,ntmps122
   go_wp2_with(first|(go_at_call 131;refine K.mono ?_;rintro q w2 ⟨g1,rfl,g2⟩)|(go_at_call 37;refine(H7 _ _).mono ?_;rintro q w3 ⟨rfl,Pv⟩;obtain rfl:=Pv.symm))
   exact awM
 .have K:=WX B rb s t vN vS vC vT hb ht w I uN e0 (hfk ae).1 (hfk ae).2.1 (hfk ae).2.2.1 (hft ae);have HP:Hid (uX s t=Ec s t):=by show _=_;unfold uX;rw[ah ae,ah ae,aj e0]
  rw[HP.out];rw[e0]at Xf;clear hfk hft NG e0 HP;cases hR:Ec s t with
  |error e=>
   unfold ui at K;rw[hR]at K;simp only at K;clear hR;go_enter func122,ntmps122
   go_wp2_with(first|(go_at_call 132;refine K.mono ?_;rintro q w2 ⟨g1,⟨v,d,hd,rfl,g2⟩,⟨r',g3⟩,g4⟩)|(go_at_call 37;refine(yD _ d _ _ _ _ Rt).mono ?_;rintro q w3 ⟨v3,rfl,g5,g6⟩))
   go_ret;exact⟨wM g1 g6,⟨_,d+1,ae,rfl,g5⟩,⟨_,qf.later g3 (S:=λ_=>False) (.qm g6) (qf.lt g3) id⟩,λh=>(g4 h).below g6⟩
  |ok s'=>
   unfold ui at K;rw[hR]at K;simp only at K;clear hR;go_enter func122,ntmps122
   go_wp2_with(first|(go_at_call 132;refine K.mono ?_;rintro q w2 ⟨g1,rfl,g2⟩)|(go_at_call 37;refine(H7 _ _).mono ?_;rintro q w3 ⟨rfl,Pv⟩;obtain rfl:=Pv.symm))
   exact awM
 .have K:=ZH B rb s t vN vS vC vT hb ht w I e0;have HP:Hid (uX s t=IM s t):=by show _=_;unfold uX;rw[ah ae,ah ae,ah ae]
  rw[HP.out];rw[e0]at Xf;clear hfk hft NG e0 HP;cases hR:IM s t with
  |error e=>
   unfold ui at K;rw[hR]at K;simp only at K;clear hR;go_enter func122,ntmps122
   go_wp2_with(first|(go_at_call 133;refine K.mono ?_;rintro q w2 ⟨g1,⟨v,d,hd,rfl,g2⟩,⟨r',g3⟩,g4⟩)|(go_at_call 37;refine(yD _ d _ _ _ _ Rt).mono ?_;rintro q w3 ⟨v3,rfl,g5,g6⟩))
   go_ret;exact⟨wM g1 g6,⟨_,d+1,ae,rfl,g5⟩,⟨_,qf.later g3 (S:=λ_=>False) (.qm g6) (qf.lt g3) id⟩,λh=>(g4 h).below g6⟩
  |ok s'=>
   unfold ui at K;rw[hR]at K;simp only at K;clear hR;go_enter func122,ntmps122
   go_wp2_with(first|(go_at_call 133;refine K.mono ?_;rintro q w2 ⟨g1,rfl,g2⟩)|(go_at_call 37;refine(H7 _ _).mono ?_;rintro q w3 ⟨rfl,Pv⟩;obtain rfl:=Pv.symm))
   exact awM
end
end Go.Proofs.Y
namespace Go.Proofs.Y
open Go.Proofs.Tryz
theorem JK{s:St}{t:List UInt8}{e:Nat×Nat}(h:yO s t=some e)(h4:e.1=4):t.length<s.sz:=by
 unfold yO at h;split at h
 .assumption
 .split at h
  .cases h
  .exact awC
theorem aes{s:St}{t:List UInt8}{e:Nat×Nat}(h:uX s t=.error e)(h4:e.1=4):t.length<s.sz:=by
 unfold uX at h;split at h
 .unfold IK at h;split at h
  .exact awC
  .split at h
   .exact awU
   .split at h
    .exact awC
    .cases h
 .split at h
  .unfold TJ at h;split at h
   .exact awU
   .split at h
    .exact awC
    .split at h
     .cases h
     .exact awC
  .split at h
   .unfold Ec at h;split at h
    .exact awU
    .split at h
     .exact awC
     .cases h
   .unfold IM at h;split at h
    .exact awC
    .split at h
     .assumption
     .cases h
def PlB(s:St):Prop:=(s.nx=0->s.pl=0)/\(s.nx=1->s.pl=32)/\(2<=s.nx->s.pl<=300040+9*s.qy.length+(if s.nx=4 then 4 else 0))
theorem ZI{s s':St}{t:List UInt8}(h:uX s t=.ok s'):s'.nx=s.nx/\s'.pl=s.pl/\(s.nx=1->s'.m=s.m/\s'.ln=s.ln)/\(s.nx=2->s'.ln=s.ln/\s'.qy.length=s.qy.length+(part t 0 (t.length-8)).length)/\(s.nx=3->s'=s):=by
 unfold uX at h;split at h
 .rename_i h0;unfold IK at h;split at h
  .cases h
  .split at h
   .cases h
   .split at h
    .cases h
    .cases h;exact⟨rfl,rfl,ae,ae,ae⟩
 .split at h
  .unfold TJ at h;split at h
   .cases h
   .split at h
    .cases h
    .split at h
     .cases h;exact⟨rfl,rfl,λ_=>⟨rfl,rfl⟩,ae,ae⟩
     .cases h
  .split at h
   .unfold Ec at h;split at h
    .cases h
    .split at h
     .cases h
     .cases h;exact⟨rfl,rfl,ae,λ_=>⟨rfl,ai⟩,ae⟩
   .unfold IM at h;split at h
    .cases h
    .split at h
     .cases h
     .cases h;exact⟨rfl,rfl,ae,ae,λ_=>rfl⟩
def meas(nx ln cl:Nat):Nat:=if nx=0 then 200001 else if nx=1 then 200000 else if nx=2 then 2+(ln-cl)else if nx=3 then 1 else 0
theorem Good.nx2{s:St}{Z:List UInt8}(hG:Good s Z)(h:s.nx=2):1<=s.c/\s.qy.length<s.ln/\s.ln<=65536:=by
 cases hG with
 |frame h0 hm h1 f hf he=>exact⟨hm.head.facts.2.2.2.2.2.1,h1,hm.head.facts.2.2.2.2.2.2.2.2.2⟩
 |head h0=>omega
 |NJ h0=>omega
 |tail h0=>omega
 |done h0=>omega
theorem ZJ(s:St)(t:List UInt8):(sV s t).nx=xx s/\(sV s t).ln=s.ln/\(sV s t).qy=s.qy/\(sV s t).pl=s.pl+t.length:=⟨rfl,rfl,rfl,rfl⟩
theorem amw{s s':St}{Z t:List UInt8}(hG:Good s Z)(h4:s.nx<=3)(h:uX s t=.ok s')(ht:t.length=s.sz)(hG':Good (sV s' t) Z):meas (sV s' t).nx (sV s' t).ln (sV s' t).qy.length<meas s.nx s.ln s.qy.length:=by
 obtain⟨e1,e2,e3,e5,e6⟩:=ZI h;obtain⟨m1,m2,m3,m4⟩:=ZJ s' t;rw[m1,m2,m3];have hb:=hG'.bounds;unfold xx;rw[e1];have h4':s.nx=0\/s.nx=1\/s.nx=2\/s.nx=3:=ae;rcases h4' with q|q|q|q
 .rw[q];simp[meas]
 .rw[q];by_cases qc:s'.qy.length<s'.ln
  .have hl:=hb.2.1;rw[m1,m2]at hl;unfold xx at hl;rw[e1,q]at hl;simp[qc]at hl;simp[meas,qc];omega
  .simp[meas,qc]
 .rw[q];obtain⟨h1,h2,h3⟩:=hG.nx2 q;obtain⟨h5,h6⟩:=e5 q
  have h7:1<=(part t 0 (t.length-8)).length:=by rw[qF ae,ht,sz2 q];omega
  by_cases qc:s'.qy.length<s'.ln
  .simp[meas,qc];omega
  .simp[meas,qc];omega
 .rw[q];simp[meas]
theorem PlB.next{s s':St}{t:List UInt8}(hp:PlB s)(hm:s.m<=300000)(h4:s.nx<=3)(h:uX s t=.ok s')(ht:t.length=s.sz)(h2:s.nx=2->1<=min s.c (s.ln-s.qy.length)):PlB (sV s' t):=by
 obtain⟨e1,e2,e3,e5,e6⟩:=ZI h;obtain⟨m1,m2,m3,m4⟩:=ZJ s' t;obtain⟨p0,p1,p2⟩:=hp;unfold PlB;rw[m1,m3,m4,e2];unfold xx;rw[e1];have h4':s.nx=0\/s.nx=1\/s.nx=2\/s.nx=3:=ae;rcases h4' with q|q|q|q
 .rw[aj q];have:=p0 q;have:=sz0 q;exact⟨ae,λ_=>ae,ae⟩
 .rw[ah ae,ah ae];have:=p1 q;have:=sz1 q;exact aye
 .rw[ah ae,ah ae];have CJ:=p2 ae;rw[ah ae]at CJ;obtain⟨h5,h6⟩:=e5 q;have hz:=sz2 q;have h7:(part t 0 (t.length-8)).length=t.length-8:=qF ae;have h8:=h2 q;exact aye
 .rw[ah ae,aj q];have CJ:=p2 ae;rw[ah ae]at CJ;have hz:=sz3 q;have:=e6 q;subst this;exact⟨ae,ae,λ_=>az⟩

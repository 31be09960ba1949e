import Derived.Test.YtnbflnamlpodcaaGreatDoorPrI
import Derived.Test.YtnbflnamlpodcaaGreatDoorShelf
import Derived.Lib.ItoaLen
import Derived.Test.YtnbflnamlpodcaaGreatDoorPrP
set_option maxHeartbeats 4000000
set_option maxRecDepth 100000
namespace Go.Proofs.Y
open Go.RowKit Go.Deep
def Pow(w:World):Prop:=Lib.TabIs Tryz.prog w "internal/strconv.uint64pow10" .u64 Lib.pow10Tab
theorem below_grow(w:World)(k:Nat)(os:Array Obj):Below w.heap.size w (Sort.grow (w.drewN k) os):=
 ⟨rfl,rfl,rfl,ai,λi hi=>by rw[Sort.heap_grow_old _ _ (by exact hi)];rfl⟩
theorem afS(n:Int)(h0:0<=n)(h1:n<=100000)(w:World)(h:Pow w):
  Calls Tryz.prog 145 #[.int .i64 n] w λe w'=>(∃s:ByteArray,e=.returned (.string s)/\s.size<=21)/\Below w.heap.size w w':=by
 refine(Any.strconv_Itoa Tryz.lays171 n ae ae w h).mono ?_;rintro e w' ⟨rfl,k,os,rfl⟩;have hl:=Lib.itoa_length_le n ae ae;exact⟨⟨_,rfl,by simpa[ByteArray.size]using hl⟩,below_grow w k os⟩
section
variable (B lb b off ct:Nat)(u:List UInt8)(pl a:Nat)(vN vS:Value)(ns:List (List UInt8))(zs:List Nat)(hlB:lb<B)(hbB:b<B)(hlb:lb≠b)(hu:u.length<=1000000)(hct:u.length<ct)(ha:a<=u.length)(hpl:pl<=1000000000000)(hns:ns.length<1000)(hzl:zs.length=ns.length)(hzs:zs.sum<=65536)(w:World)(I:LsI B w lb b off ct u pl a vN vS ns zs)
include hlB hbB hlb hu hct ha hpl hns hzl hzs I in
theorem VF:Calls Tryz.prog 144 #[.pointer (some ⟨lb,0,none⟩)] w λq w'=>D7 B w lb b off ct u pl a ns zs q w':=by
 by_cases q1:u.length<a+6\/le u a 2<1\/255<le u a 2\/u.length<a+6+le u a 2
 .refine(aaj B lb b off ct u pl a vN vS ns zs hu hct ha hpl w I q1).mono λq w' h=>?_
  unfold D7 vO;rw[aj q1];exact h
 .by_cases q2:0<ns.length/\um (part u (a+2) (le u a 2)) (ns.getD (ns.length-1) [])=true
  .refine(aak B lb b off ct u pl a vN vS ns zs hu hct ha hpl hns w I (le u a 2) rfl ae ae ae _ rfl q2.1 q2.2).mono λq w' h=>?_
   unfold D7 vO;rw[ah q1,aj q2];exact h
  .have q2':0<ns.length->um (part u (a+2) (le u a 2)) (ns.getD (ns.length-1) [])=false:=λh=>by
    cases hh:um (part u (a+2) (le u a 2)) (ns.getD (ns.length-1) [])with
    |false=>rfl
    |true=>exact absurd ⟨h,hh⟩ q2
   by_cases q3:65536<zs.sum+le u (a+2+le u a 2) 4
   .refine(aal B lb b off ct u pl a vN vS ns zs hu hct ha hpl hns hzs w I (le u a 2) rfl ae ae ae _ rfl _ rfl q3 q2').mono λq w' h=>?_
    unfold D7 vO;rw[ah q1,ah q2,aj q3];have e:a+2+le u a 2=a+(2+le u a 2):=ae;simp only;rw[e];exact h
   .refine(aam B lb b off ct u pl a vN vS ns zs hlB hbB hlb hu hct ha hpl hns hzl hzs w I (le u a 2) rfl ae ae ae _ rfl _ rfl ae q2').mono λq w' h=>?_
    unfold D7 vO;rw[ah q1,ah q2,ah q3];exact h
end
theorem Pow.but{w w':World}{B:Nat}{S:Nat->Prop}(h:Pow w)(hb:But B S w w')(hB:∀k,k<5->k<B/\¬S k):Pow w':=by
 have hg:∃g,g<5/\Tryz.prog.globalNamed "internal/strconv.uint64pow10" =some g:=by exact⟨4,au,ag⟩
 obtain⟨g,alH,hg⟩:=hg;unfold Pow Lib.TabIs World.var? at h⊢;rw[hg]at h⊢;simp only[eQ]at h⊢;rw[hb.block g (hB g alH).1 (hB g alH).2];exact h
def KO(B:Nat)(w:World)(lb b off ct:Nat)(u:List UInt8)(pl:Nat)(q:Ending)(w':World):Prop:=
 But B (· =lb) w w'/\match yG u with
 | .error p=>∃v d,d<=1/\q=.returned v/\Chain w' d v 7 (pl+p)
 | .ok (ns,zs)=>q=.returned .nilIface/\∃vN vS a,LsI B w' lb b off ct u pl a vN vS ns zs
section
variable (B lb b off ct:Nat)(u:List UInt8)(pl:Nat)(hlB:lb<B)(hbB:b<B)(hlb:lb≠b)(hu4:4<=u.length)(hu:u.length<=1000000)(hct:u.length<ct)(hpl:pl<=1000000000000)(w:World)(I:LsI B w lb b off ct u pl 0 (.slice none 0 0) (.slice none 0 0) [] [])(hP:Pow w)(amC:5<=lb)
include hlB hbB hlb hu4 hu hct hpl I hP amC in
theorem MJ:Calls Tryz.prog 137 #[.pointer (some ⟨lb,0,none⟩)] w λq w'=>KO B w lb b off ct u pl q w':=by
 have c0:=qf.cell I.ls (i:=0) rfl;have c2:=qf.cell I.ls (i:=2) rfl;have f2:=qf.frozen I.ls 2;have e4:(part u 0 4).length=4:=qE ae
 have Ig:le (part u 0 4) 0 4=le u 0 4:=by simp only[le];rw[uh ae,uh ae,uh ae,uh ae]
 have K4:=λcap=>vG b off 4 cap (part u 0 4) e4 ae w (by have:=I.EW.part (a:=0) (n:=4) ae;exact this)
 rw[Ig]at K4;have amD:le u 0 4<2^32:=NY u 4 0;obtain⟨N,eN⟩:∃N,le u 0 4=N:=⟨_,rfl⟩;rw[eN]at K4 amD;by_cases q1:1000<N
 .have HL:Hid (yG u=.error 0):=by show _=_;unfold yG;rw[eN,aj q1]
  have KW:=zI lb _ pl 0 _ _ _ hpl ae w I.ls 0 0 pl rfl ae ae;clear e4 Ig eN;go_enter Tryz.func137,Tryz.ntmps137
  go_wp2_with(first|(go_at_call 141;refine(K4 _).mono ?_;rintro q w' ⟨rfl,hw'⟩;obtain rfl:=hw'.symm)|(go_at_call 143;refine KW.mono ?_;rintro q w2 ⟨v,rfl,g1,g2⟩))
  go_ret;refine⟨(But.of_below g2).mono I.size (λ_ x=>x),?_⟩;rw[HL.out];exact⟨_,0,ae,rfl,g1⟩
 .have HL:Hid (yG u=xI u N 4 [] []):=by show _=_;unfold yG;rw[eN,ah q1]
  have J0:YH B w w lb b off ct u pl 0 (.slice none 0 0) (.slice none 0 0) [] [] 0:=⟨I.ls,I.on,I.os,I.ap,I.EW,I.size,But.refl _ _ _⟩;have J1:=J0.afT hlB hbB hlb 4;clear J0 I e4 Ig eN;go_enter Tryz.func137,Tryz.ntmps137
  go_wp2_with(first|(go_at_call 141;refine(K4 _).mono ?_;rintro q w' ⟨rfl,hw'⟩;obtain rfl:=hw'.symm))
  have J2:YH B w (w.setCell ⟨lb,2,none⟩ (.int .i64 4)) lb b off ct u pl 4 (.slice none 0 0) (.slice none 0 0) [] [] 0:=J1;clear J1 K4 c0 c2 f2;generalize w.setCell ⟨lb,2,none⟩ (.int .i64 4)=w1 at J2⊢
  go_loopw [21] (λvi wr=>∃(c a:Nat)(ns:List (List UInt8))(zs:List Nat)(vN vS:Value),c<=N/\a<=u.length/\vi=.int .i64 (c:Int)/\Hid (ns.length=c)/\Hid (zs.length=ns.length)/\Hid (zs.sum<=65536)/\LsI B wr lb b off ct u pl a vN vS ns zs/\But B (· =lb) w wr/\Hid (yG u=xI u (N-c) a ns zs)) (λi _=>N-(intOf i).toNat)
  case atStart=>exact⟨0,4,[],[],_,_,ae,hu4,rfl,rfl,rfl,(show([]:List Nat).sum<=65536 by simp),⟨J2.ls,J2.on,J2.os,J2.ap,J2.EW,J2.size⟩,J2.but,HL⟩
  case round=>
   obtain⟨c,a,ns,zs,vN,vS,hc,ha,rfl,H1,H2,H3,I,hb,HR⟩:=hrel;clear J2 HL;have hPr:Pow wr:=hP.but hb (λk hk=>⟨ae,ae⟩);by_cases hlt:c<N
   .have K:=VF B lb b off ct u pl a vN vS ns zs hlB hbB hlb hu hct ha hpl (by rw[H1.out];omega) H2.out H3.out wr I;unfold D7 at K
    have HR2:Hid (yG u=match vO u a ns zs with| .error p=>.error p| .ok (nm,z)=>xI u (N-(c+1)) (a+(6+nm.length)) (ns++[nm]) (zs++[z])):=by
     show _=_;rw[HR.out,show N-c=(N-(c+1))+1 by omega,xI]
     all_goals rfl
    cases hbl:vO u a ns zs with
    |error p=>
     rw[hbl]at K HR2;simp only at K HR2;have hsz:=I.size;clear HR I hbl
     go_wp2_with(first|(go_at_call 144;refine K.mono ?_;rintro q w2 ⟨v,rfl,g1,g2⟩;have hP2:=hPr.but (S:=λ_=>False) (.of_below g2) (λk hk=>⟨ae,id⟩);obtain⟨ty,x,rfl⟩:=g1.iface)|(go_at_call 145;refine(afS _ ae ae _ (by exact hP2)).mono ?_;rintro q w3 ⟨⟨s3,rfl,hs3⟩,g3⟩;have g4:=g1.under g3)|(go_at_call 37;refine(w_ _ 0 _ 7 (pl+p) _ (by exact g4)).mono ?_;rintro q w5 ⟨v5,rfl,g5,g6⟩))
     go_ret;have h2s:=g2.size;have h3s:=g3.size;refine⟨hb.trans ((But.of_below (g2.mono hsz)).trans ((But.of_below (g3.mono ae)).trans (.of_below (g6.mono ae)))),?_⟩;rw[HR2.out];exact⟨_,1,ae,rfl,g5⟩
    |ok x=>
     obtain⟨nm,z⟩:=x;rw[hbl]at K HR2;simp only at K HR2;have hb1:=hbl;unfold vO at hb1
     have hsum:zs.sum+z<=65536/\a+(6+nm.length)<=u.length:=by
      split at hb1
      .cases hb1
      .split at hb1
       .cases hb1
       .split at hb1
        .cases hb1
        .cases hb1;refine⟨ae,?_⟩;rw[qE ae];omega
     have HS:Hid (zs.sum+z<=65536):=hsum.1;have ha2:=hsum.2;clear HR I hbl hb1 hsum H3
     go_wp2_with(first|(go_at_call 144;refine K.mono ?_;rintro q w2 ⟨rfl,g1,vN2,vS2,g2⟩))
     go_roundw
     case rel=>exact⟨c+1,_,ns++[nm],zs++[z],vN2,vS2,ae,ha2,aV,(show(ns++[nm]).length=c+1 by rw[aQ,H1.out];rfl),(show(zs++[z]).length=(ns++[nm]).length by rw[aQ,aQ,H2.out];rfl),(show(zs++[z]).sum<=65536 by rw[iw];have:=HS.out;simpa using this),g2,hb.trans g1,HR2⟩
     case measure=>simp[intOf];omega
   .obtain rfl:c=N:=ae
    have HR2:Hid (yG u=if a<u.length then .error a else .ok (ns,zs)):=by show _=_;rw[HR.out,jY,xI]
    have c0:=qf.cell I.ls (i:=0) rfl;have c2:=qf.cell I.ls (i:=2) rfl;have KW:=λn=>zI lb _ pl a _ _ _ hpl ae (wr.drewN n) (I.ls.drewN n) 0 0 (pl+a) rfl ae ae
    have hsz:=I.size;by_cases q2:a<u.length
    .have HX:Hid (yG u=.error a):=by show _=_;rw[HR2.out,aj q2]
     clear HR HR2 I
     go_wp2_with fail
     go_big_quiet (fail)
     go_wp2_with(first|(go_at_call 143;refine(KW _).mono ?_;rintro q w2 ⟨v,rfl,g1,g2⟩))
     go_ret;have g3:Below wr.heap.size wr w2:=⟨g2.os,g2.tape,g2.output,g2.size,g2.block⟩;refine⟨hb.trans (.of_below (g3.mono hsz)),?_⟩;rw[HX.out];exact⟨_,0,ae,rfl,g1⟩
    .have HX:Hid (yG u=.ok (ns,zs)):=by show _=_;rw[HR2.out,ah q2]
     have I':=λn=>I.drewN n
     clear HR HR2 KW I
     go_wp2_with fail
     go_big_quiet (fail)
     go_wp2;go_ret;refine⟨hb.drewN _,?_⟩;rw[HX.out];exact⟨rfl,vN,vS,a,I' _⟩
end
theorem zJ{w:World}{B B' e n:Nat}{v:Value}{xs:List Value}(h:w.ownsRow B' e 1 v n xs)(hB:B<=B'):w.ownsRow B e 1 v n xs:=by
 refine⟨h.1,?_⟩;rcases h.2 with x|⟨g,cap,cur,e1,h1,h2⟩
 .exact .inl x
 .exact .inr ⟨g,cap,cur,e1,aK hB h1,h2⟩
theorem RI.lists{B rb:Nat}{w:World}{s:St}{t:List UInt8}{vN vS vC vT QE QF:Value}{ns:List (List UInt8)}{zs:List Nat}(I:RI B w rb s t vN vS vC vT)(hn:w.ownsRow B 9 1 QE ns.length (AB ns))(hs:w.ownsRow B 3 1 QF zs.length (yh zs))(tt:Nat):
  RI B (((w.setCell ⟨rb,4,none⟩ QE).setCell ⟨rb,5,none⟩ QF).setCell ⟨rb,9,none⟩ (.int .i64 (tt:Int))) rb {s with ns:=ns,zs:=zs,tt:=tt} t QE QF vC vT/\But w.heap.size (· =rb) w (((w.setCell ⟨rb,4,none⟩ QE).setCell ⟨rb,5,none⟩ QF).setCell ⟨rb,9,none⟩ (.int .i64 (tt:Int))):=by
 have hB:But w.heap.size (· =rb) w (((w.setCell ⟨rb,4,none⟩ QE).setCell ⟨rb,5,none⟩ QF).setCell ⟨rb,9,none⟩ (.int .i64 (tt:Int))):=(((But.refl w.heap.size (· =rb) w).setCell (p:=⟨rb,4,none⟩) (.inr rfl) QE).setCell (p:=⟨rb,5,none⟩) (.inr rfl) QF).setCell (p:=⟨rb,9,none⟩) (.inr rfl) _;have key:∀{e n:Nat}{v:Value}{xs:List Value},w.ownsRow B e 1 v n xs->e≠122->(((w.setCell ⟨rb,4,none⟩ QE).setCell ⟨rb,5,none⟩ QF).setCell ⟨rb,9,none⟩ (.int .i64 (tt:Int))).ownsRow B e 1 v n xs:=λh he=>uz h (λg hg'=>hB.block g (h.lt g hg').2 (λe=>tq h I.rd he (by rw[hg',e])))
 have hR:wH (((w.setCell ⟨rb,4,none⟩ QE).setCell ⟨rb,5,none⟩ QF).setCell ⟨rb,9,none⟩ (.int .i64 (tt:Int))) rb (({s with ns:=ns,zs:=zs,tt:=tt}:St).rd QE QF vC vT .nilIface):=((qf.set I.rd 4 QE).set 5 QF).set 9 (.int .i64 (tt:Int));exact⟨⟨hR,key hn au,key hs au,key I.oc au,key I.ot au,I.ap,aK I.size hB.size⟩,hB⟩
theorem RI.akf{B rb:Nat}{w w1:World}{s:St}{t:List UInt8}{vN vS vC vT v1:Value}(I:RI B w rb s t vN vS vC vT)(hb:Below w.heap.size w w1)(h1:OwnB B w1 v1 [])(hk:v1.ownBlock=some w.heap.size):
  RI B (w1.setCell ⟨rb,6,none⟩ v1) rb {s with qx:=[]} t vN vS v1 vT/\But w.heap.size (· =rb) w (w1.setCell ⟨rb,6,none⟩ v1)/\w1.cell? ⟨rb,6,none⟩=some vC/\w1.frozen? ⟨rb,6,none⟩=false:=by
 have I1:=I.below hb;have hR2:wH (w1.setCell ⟨rb,6,none⟩ v1) rb (({s with qx:=[]}:St).rd vN vS v1 vT .nilIface):=qf.set I1.rd 6 v1;refine⟨⟨hR2,tZ I1.on (tq I1.on I1.rd au),tZ I1.os (tq I1.os I1.rd au),tZ h1 (tq h1 I1.rd au),tZ I1.ot (tq I1.ot I1.rd au),?_,?_⟩,?_,qf.cell I1.rd (i:=6) rfl,qf.frozen I1.rd 6⟩
 .intro g hg1 hg2;have h2:=(iH I.ot g hg2).2;rw[hk]at hg1;cases hg1;omega
 .have:=I1.size;exact aqb
 .exact But.setCell (S:=(· =rb)) (But.of_below hb) (p:=⟨rb,6,none⟩) (.inr rfl) v1
section
variable (B rb:Nat)(s:St)(t:List UInt8)(vN vS vC vT:Value)(hb:Bd s)(ht:t.length<=s.sz)(w:World)(I:RI B w rb s t vN vS vC vT)(tY:Tab w)(hPow:Pow w)(h16:5<=w.heap.size)
include hb ht I tY hPow h16 in
theorem MK(hnx:s.nx=1)(hk1:1<=s.k)(hk2:s.k<=128)(hm4:4<=s.m):Calls Tryz.prog 131 #[.pointer (some ⟨rb,0,none⟩)] w λq w'=>sO B w rb s t vN vS vC vT (OZ s t) 1 q w':=by
 obtain⟨bc,cc,eC,hcc⟩:=I.oc.slice;obtain⟨bt,ct,eT,hct⟩:=I.ot.slice;have hz:=St.Ui hb;have KS:=GV rb (s.rd vN vS vC vT .nilIface) bc s.qx.length cc eC lG lI lH hb.qx mP t bt ct eT ae lF w I.rd I.ot.lies tY;have hsz:wY s.nx s.c s.m s.ln s.qx.length=s.sz:=rfl;simp only[St.rd,hsz]at KS;have hSP:IK s.sz s.pl t=xx s t:=rfl;simp only[hSP]at KS;unfold OZ;cases hse:xx s t with
 |some e=>
  unfold xZ at KS;rw[hse]at KS;simp only at KS⊢;clear hse;go_enter Tryz.func131,Tryz.ntmps131
  go_wp2_with(first|(go_at_call 135;refine KS.mono ?_;rintro q w2 ⟨v,rfl,g1,g2⟩;obtain⟨ty,x,rfl⟩:=g1.iface))
  go_ret;exact sO.fault I (gV _) g1 g2
 |none=>
  unfold xZ at KS;rw[hse]at KS;simp only at KS⊢;have hz1:=sz1 hnx
  have hl8:t.length=s.sz:=by
   unfold xx at hse;split at hse
   .cases hse
   .omega
  obtain⟨b,off,ebt,hB,hbr⟩:∃b off,bt=some ⟨b,off,none⟩/\Ag w b off t/\b≠rb:=by exact art
  subst ebt;have em:t.length-8=s.m:=ae;have hu:(part t 0 s.m).length=s.m:=qE ae;have hBu:Ag w b off (part t 0 s.m):=by have:=hB.part (a:=0) (n:=s.m) ae;exact this
  rw[em]at KS⊢;have hpl:=hb.pl;have hm:=hb.m;have c11:=qf.cell I.rd (i:=11) rfl;simp only[St.rd]at c11;obtain⟨pl,R_⟩:∃pl,s.pl=pl:=⟨_,rfl⟩;obtain⟨m,emm⟩:∃m,s.m=m:=⟨_,rfl⟩;obtain⟨u,eu⟩:∃u,part t 0 s.m=u:=⟨_,rfl⟩;rw[eu]at hu hBu⊢;rw[R_]at c11 hpl⊢;rw[emm]at KS hu hm hm4;clear hse hl8 hsz hSP;have aiD:∀j,Pow (w.drewN j):=λj=>hPow.but (S:=λ_=>False) (B:=w.heap.size) ((But.refl _ _ _).drewN j) (λk hk=>⟨ae,id⟩)
  have facts:∀j w2,w2=w.drewN j->RI B w2 rb s t vN vS vC vT/\w2.cell? ⟨rb,11,none⟩=some (.int .i64 (pl:Int))/\Pow w2/\5<=w2.heap.size/\But w.heap.size (λ_=>False) w w2/\Ag w2 b off u/\w.heap.size=w2.heap.size:=by rintro j w2 rfl;exact⟨I.drewN j,by simpa using c11,aiD j,h16,(But.refl _ _ _).drewN j,hBu,rfl⟩
  clear aiD c11 hBu hPow tY;cases hL:yG u with
  |error p=>
   simp only;go_enter Tryz.func131,Tryz.ntmps131
   go_upto_region 5 with(first|(go_at_call 135;refine KS.mono ?_;rintro q w2 ⟨rfl,j,hw2⟩;obtain⟨I2,c11,hP2,afU,hb2,hB2,hs2⟩:=facts j w2 hw2;have HS2:Hid (w.heap.size=w2.heap.size):=hs2;clear hw2 hs2 facts I hB KS))
   have hA3:=(aA w2.heap.size w2).alloc (ak _) (.cells (lsL (.slice (some ⟨b,off,none⟩) m ct) pl 0 (.slice none 0 0) (.slice none 0 0) 0).toArray 222);have hL3:Bh (w2.alloc (.cells (lsL (.slice (some ⟨b,off,none⟩) m ct) pl 0 (.slice none 0 0) (.slice none 0 0) 0).toArray 222)) w2.heap.size (.slice (some ⟨b,off,none⟩) m ct) pl 0 (.slice none 0 0) (.slice none 0 0) 0:=qf.made w2 _ _;have hs3:w2.heap.size<(w2.alloc (.cells (lsL (.slice (some ⟨b,off,none⟩) m ct) pl 0 (.slice none 0 0) (.slice none 0 0) 0).toArray 222)).heap.size:=ai;have hbl:b<w2.heap.size:=cell_lt (hB2 0 ae);unfold lsL at hA3 hL3 hs3;generalize hw3:w2.alloc _=w3 at hA3 hL3 hs3⊢;clear hw3;have hB3:Ag w3 b off u:=hB2.later (S:=λ_=>False) (.of_below hA3) hbl id;have hP3:Pow w3:=hP2.but (S:=λ_=>False) (.of_below hA3) (λk hk=>⟨ae,id⟩);rw[<-hu]at hL3;have LI:LsI w3.heap.size w3 w2.heap.size b off ct u pl 0 (.slice none 0 0) (.slice none 0 0) [] []:=⟨hL3,bT _ _ _ _,bT _ _ _ _,λg hg=>pV,hB3,ak _⟩;have KL:=MJ w3.heap.size w2.heap.size b off ct u pl hs3 ae ae ae ae ae ae w3 LI hP3 afU;unfold KO at KL;have hfr:∀w4,But w3.heap.size (· =w2.heap.size) w3 w4->Below w2.heap.size w2 w4:=λw4 h=>hA3.trans ⟨h.os,h.tape,h.output,h.size,λk hk=>h.block k ae ae⟩
   have hfw:∀w4,Below w2.heap.size w2 w4->Below w.heap.size w w4:=λw4 h=>(hb2.below (λ_ _=>id)).trans (h.mono aoH)
   rw[hL]at KL;simp only at KL;have HLZ:=HS2;clear hL LI hL3
   go_wp2_with(first|(go_at_call 137;refine KL.mono ?_;rintro q w4 ⟨g1,v,d,hd,rfl,g2⟩;obtain⟨ty,x,rfl⟩:=g2.iface))
   go_ret;have I4:=I2.below (hfr _ g1);exact⟨.of_below (hfw _ (hfr _ g1)),⟨_,d,hd,rfl,g2⟩,⟨_,I4.rd⟩,λh=>dZ⟩
  |ok x=>
   obtain⟨ns,zs⟩:=x;simp only
   have alI:Hid (zs.sum<=65536):=by
    show _<=_;unfold yG at hL;split at hL
    .cases hL
    .exact G_ _ _ _ _ _ ai hL
   by_cases qn:s.ln=sF s.k zs.sum
   .rw[aj qn];go_enter Tryz.func131,Tryz.ntmps131
    go_upto_region 5 with(first|(go_at_call 135;refine KS.mono ?_;rintro q w2 ⟨rfl,j,hw2⟩;obtain⟨I2,c11,hP2,afU,hb2,hB2,hs2⟩:=facts j w2 hw2;have HS2:Hid (w.heap.size=w2.heap.size):=hs2;clear hw2 hs2 facts I hB KS))
    have hA3:=(aA w2.heap.size w2).alloc (ak _) (.cells (lsL (.slice (some ⟨b,off,none⟩) m ct) pl 0 (.slice none 0 0) (.slice none 0 0) 0).toArray 222);have hL3:Bh (w2.alloc (.cells (lsL (.slice (some ⟨b,off,none⟩) m ct) pl 0 (.slice none 0 0) (.slice none 0 0) 0).toArray 222)) w2.heap.size (.slice (some ⟨b,off,none⟩) m ct) pl 0 (.slice none 0 0) (.slice none 0 0) 0:=qf.made w2 _ _;have hs3:w2.heap.size<(w2.alloc (.cells (lsL (.slice (some ⟨b,off,none⟩) m ct) pl 0 (.slice none 0 0) (.slice none 0 0) 0).toArray 222)).heap.size:=ai;have hbl:b<w2.heap.size:=cell_lt (hB2 0 ae);unfold lsL at hA3 hL3 hs3;generalize hw3:w2.alloc _=w3 at hA3 hL3 hs3⊢;clear hw3;have hB3:Ag w3 b off u:=hB2.later (S:=λ_=>False) (.of_below hA3) hbl id;have hP3:Pow w3:=hP2.but (S:=λ_=>False) (.of_below hA3) (λk hk=>⟨ae,id⟩);rw[<-hu]at hL3;have LI:LsI w3.heap.size w3 w2.heap.size b off ct u pl 0 (.slice none 0 0) (.slice none 0 0) [] []:=⟨hL3,bT _ _ _ _,bT _ _ _ _,λg hg=>pV,hB3,ak _⟩;have KL:=MJ w3.heap.size w2.heap.size b off ct u pl hs3 ae ae ae ae ae ae w3 LI hP3 afU;unfold KO at KL;have hfr:∀w4,But w3.heap.size (· =w2.heap.size) w3 w4->Below w2.heap.size w2 w4:=λw4 h=>hA3.trans ⟨h.os,h.tape,h.output,h.size,λk hk=>h.block k ae ae⟩
    have hfw:∀w4,Below w2.heap.size w2 w4->Below w.heap.size w w4:=λw4 h=>(hb2.below (λ_ _=>id)).trans (h.mono aoH)
    rw[hL]at KL;simp only at KL;clear hL LI hL3
    go_upto_region 8 with(first|(go_at_call 137;refine KL.mono ?_;rintro q w4 ⟨g1,rfl,vN2,vS2,a2,g2⟩))
    have I4:=I2.below (hfr _ g1);have hB4:=hfw _ (hfr _ g1);have d3:=qf.cell g2.ls (i:=3) rfl;have d4:=qf.cell g2.ls (i:=4) rfl;have d5:=qf.cell g2.ls (i:=5) rfl;have c4:=qf.cell I4.rd (i:=4) rfl;have c5:=qf.cell I4.rd (i:=5) rfl;have c9:=qf.cell I4.rd (i:=9) rfl;have f0:=qf.frozen I4.rd;obtain⟨bn,cn,en⟩:=sW g2.on;obtain⟨bz,cz,ez⟩:=sW g2.os;subst en ez
    go_upto_region 9 with(fail)
    obtain⟨I5,hB5⟩:=I4.lists (zJ g2.on pJ) (zJ g2.os pJ) zs.sum;have hB6:But w.heap.size (Mine rb vC vT) w _:=(But.of_below hB4).trans (hB5.mono hB4.size (λ_ x=>.inl x));clear d3 d4 d5 c4 c5 c9 f0 I4 hB5;generalize(((w4.setCell ⟨rb,4,none⟩ (.slice bn ns.length cn)).setCell ⟨rb,5,none⟩ (.slice bz zs.length cz)).setCell ⟨rb,9,none⟩ (.int .i64 (zs.sum:Nat)))=w5 at I5 hB6⊢;have c0:=qf.cell I5.rd (i:=0) rfl;have c8:=qf.cell I5.rd (i:=8) rfl;have c9:=qf.cell I5.rd (i:=9) rfl;simp only[St.rd]at c0 c8 c9;have hln:=hb.ln;have KC:=λj=>Ce (s.k:Int) (zs.sum:Int) s.k zs.sum rfl rfl hk1 ae alI.out (w5.drewN j)
    obtain⟨Z,eZ⟩:∃Z,zs.sum=Z:=⟨_,rfl⟩;obtain⟨LN,eLN⟩:∃LN,s.ln=LN:=⟨_,rfl⟩;rw[eZ]at c9 KC;rw[eLN]at c8 hln;obtain⟨LC,eLC⟩:∃LC,sF s.k Z=LC:=⟨_,rfl⟩;simp only[eLC]at KC;have HZ:Hid (zs.sum=Z):=eZ;obtain rfl:LN=LC:=by rw[<-eLN,qn,eZ,eLC]
    clear eZ eLC qn
    go_wp2_with fail
    go_big_quiet (first|(go_at_call 77;exact(KC _).mono (λ_ _ h=>⟨h.1,_,h.2⟩)))
    obtain⟨i0,hi0,hz0,amE,amF⟩:=bg Au;obtain⟨w6,hmk,ho6,hg6⟩:=run_make_own (P:=Tryz.prog) (w5.drewN nq) B 34 5 i0 (.int .u8 0) 1 Tryz.underlying34 hi0 hz0 amE .i64 .i64 LN (by rw[amF];omega) bH I5.size;have hb6:Below w5.heap.size w5 w6:=xe ((aA (w5.drewN nq).heap.size (w5.drewN nq)).grown hg6 (ak _) (λk hk=>by cases hk));obtain⟨I6,hB7,x6,f6⟩:=I5.akf hb6 (OwnB.of ho6) rfl;go_wp2;subst emm eLN R_;rw[hnx]at I6;rw[<-eC,<-eT];go_ret;refine⟨hB6.trans (hB7.mono hB6.size (λ_ x=>.inl x)),rfl,_,_,_,I6,.inr ⟨_,rfl,hB6.size⟩⟩
   .rw[ah qn];go_enter Tryz.func131,Tryz.ntmps131
    go_upto_region 5 with(first|(go_at_call 135;refine KS.mono ?_;rintro q w2 ⟨rfl,j,hw2⟩;obtain⟨I2,c11,hP2,afU,hb2,hB2,hs2⟩:=facts j w2 hw2;have HS2:Hid (w.heap.size=w2.heap.size):=hs2;clear hw2 hs2 facts I hB KS))
    have hA3:=(aA w2.heap.size w2).alloc (ak _) (.cells (lsL (.slice (some ⟨b,off,none⟩) m ct) pl 0 (.slice none 0 0) (.slice none 0 0) 0).toArray 222);have hL3:Bh (w2.alloc (.cells (lsL (.slice (some ⟨b,off,none⟩) m ct) pl 0 (.slice none 0 0) (.slice none 0 0) 0).toArray 222)) w2.heap.size (.slice (some ⟨b,off,none⟩) m ct) pl 0 (.slice none 0 0) (.slice none 0 0) 0:=qf.made w2 _ _;have hs3:w2.heap.size<(w2.alloc (.cells (lsL (.slice (some ⟨b,off,none⟩) m ct) pl 0 (.slice none 0 0) (.slice none 0 0) 0).toArray 222)).heap.size:=ai;have hbl:b<w2.heap.size:=cell_lt (hB2 0 ae);unfold lsL at hA3 hL3 hs3;generalize hw3:w2.alloc _=w3 at hA3 hL3 hs3⊢;clear hw3;have hB3:Ag w3 b off u:=hB2.later (S:=λ_=>False) (.of_below hA3) hbl id;have hP3:Pow w3:=hP2.but (S:=λ_=>False) (.of_below hA3) (λk hk=>⟨ae,id⟩);rw[<-hu]at hL3;have LI:LsI w3.heap.size w3 w2.heap.size b off ct u pl 0 (.slice none 0 0) (.slice none 0 0) [] []:=⟨hL3,bT _ _ _ _,bT _ _ _ _,λg hg=>pV,hB3,ak _⟩;have KL:=MJ w3.heap.size w2.heap.size b off ct u pl hs3 ae ae ae ae ae ae w3 LI hP3 afU;unfold KO at KL;have hfr:∀w4,But w3.heap.size (· =w2.heap.size) w3 w4->Below w2.heap.size w2 w4:=λw4 h=>hA3.trans ⟨h.os,h.tape,h.output,h.size,λk hk=>h.block k ae ae⟩
    have hfw:∀w4,Below w2.heap.size w2 w4->Below w.heap.size w w4:=λw4 h=>(hb2.below (λ_ _=>id)).trans (h.mono aoH)
    rw[hL]at KL;simp only at KL;clear hL LI hL3
    go_upto_region 8 with(first|(go_at_call 137;refine KL.mono ?_;rintro q w4 ⟨g1,rfl,vN2,vS2,a2,g2⟩))
    have I4:=I2.below (hfr _ g1);have hB4:=hfw _ (hfr _ g1);have d3:=qf.cell g2.ls (i:=3) rfl;have d4:=qf.cell g2.ls (i:=4) rfl;have d5:=qf.cell g2.ls (i:=5) rfl;have c4:=qf.cell I4.rd (i:=4) rfl;have c5:=qf.cell I4.rd (i:=5) rfl;have c9:=qf.cell I4.rd (i:=9) rfl;have f0:=qf.frozen I4.rd;obtain⟨bn,cn,en⟩:=sW g2.on;obtain⟨bz,cz,ez⟩:=sW g2.os;subst en ez
    go_upto_region 9 with(fail)
    obtain⟨I5,hB5⟩:=I4.lists (zJ g2.on pJ) (zJ g2.os pJ) zs.sum;have hB6:But w.heap.size (Mine rb vC vT) w _:=(But.of_below hB4).trans (hB5.mono hB4.size (λ_ x=>.inl x));clear d3 d4 d5 c4 c5 c9 f0 I4 hB5;generalize(((w4.setCell ⟨rb,4,none⟩ (.slice bn ns.length cn)).setCell ⟨rb,5,none⟩ (.slice bz zs.length cz)).setCell ⟨rb,9,none⟩ (.int .i64 (zs.sum:Nat)))=w5 at I5 hB6⊢;have c0:=qf.cell I5.rd (i:=0) rfl;have c8:=qf.cell I5.rd (i:=8) rfl;have c9:=qf.cell I5.rd (i:=9) rfl;simp only[St.rd]at c0 c8 c9;have hln:=hb.ln;have KC:=λj=>Ce (s.k:Int) (zs.sum:Int) s.k zs.sum rfl rfl hk1 ae alI.out (w5.drewN j)
    obtain⟨Z,eZ⟩:∃Z,zs.sum=Z:=⟨_,rfl⟩;obtain⟨LN,eLN⟩:∃LN,s.ln=LN:=⟨_,rfl⟩;rw[eZ]at c9 KC;rw[eLN]at c8 hln;obtain⟨LC,eLC⟩:∃LC,sF s.k Z=LC:=⟨_,rfl⟩;simp only[eLC]at KC;have HZ:Hid (zs.sum=Z):=eZ
    have hne:((LN:Int)==(LC:Int))=false:=by
     have:LN≠LC:=λe=>qn (by rw[eLN,e,<-eLC,<-eZ])
     simp;omega
    have hne2:((LN:Int) != (LC:Int))=true:=by
     have:LN≠LC:=λe=>qn (by rw[eLN,e,<-eLC,<-eZ])
     simp;omega
    clear eZ eLC qn
    go_wp2_with fail
    go_big_quiet (first|(go_at_call 77;exact(KC _).mono (λ_ _ h=>⟨h.1,_,h.2⟩)))
    go_wp2_with(first|(go_at_call 64;refine(yS _ _ 7 18 ax ax _).mono ?_;rintro q w7 ⟨v,rfl,h1,h2⟩))
    go_ret;have h3:=xe h2;exact⟨hB6.trans (.of_below (h3.mono hB6.size)),⟨_,0,gV _,rfl,h1⟩,⟨_,(I5.below h3).rd⟩,λh=>dZ⟩
end
structure Fit(s:St):Prop where
 bd:Bd s
 nx:s.nx<=3
 k:s.nx≠0->1<=s.k/\s.k<=128/\s.i<=128/\4<=s.m
 tt:2<=s.nx->s.tt<=65536
theorem uU{w w' w'':World}{S:Nat->Prop}(h:But w.heap.size S w w')(hb:Below w'.heap.size w' w''):But w.heap.size S w w'':=h.trans (.of_below (hb.mono h.size))
section
variable (B rb:Nat)(s:St)(t:List UInt8)(vN vS vC vT:Value)(hF:Fit s)(ht:t.length<=s.sz)(w:World)(I:RI B w rb s t vN vS vC vT)(tY:Tab w)(hPow:Pow w)(h16:5<=w.heap.size)
include hF ht I tY hPow h16 in
theorem Uj:Calls Tryz.prog 122 #[.pointer (some ⟨rb,0,none⟩)] w λq w'=>sO B w rb s t vN vS vC vT (ui s t) 2 q w':=by
 have hb:=hF.bd;have c10:=qf.cell I.rd (i:=10) rfl;simp only[St.rd]at c10;have hnx:=hF.nx;have hfk:=hF.k;have hft:=hF.tt;have h4:s.nx=0\/s.nx=1\/s.nx=2\/s.nx=3:=ae;rcases h4 with e0|e0|e0|e0
 .have K:=VG B rb s t vN vS vC vT hb ht w I tY e0;have HP:Hid (ui s t=FB s t):=by show _=_;unfold ui;rw[aj e0]
  rw[HP.out];rw[e0]at c10;clear hfk hft hnx e0 HP;cases hR:FB s t with
  |error e=>
   unfold sO at K;rw[hR]at K;simp only at K;clear hR;go_enter Tryz.func122,Tryz.ntmps122
   go_wp2_with(first|(go_at_call 130;refine K.mono ?_;rintro q w2 ⟨g1,⟨v,d,hd,rfl,g2⟩,⟨r',g3⟩,g4⟩)|(go_at_call 37;refine(w_ _ d _ _ _ _ pU).mono ?_;rintro q w3 ⟨v3,rfl,g5,g6⟩))
   go_ret;exact⟨uU g1 g6,⟨_,d+1,ae,rfl,g5⟩,⟨_,qf.later g3 (S:=λ_=>False) (.of_below g6) (qf.lt g3) id⟩,λh=>(g4 h).below g6⟩
  |ok s'=>
   unfold sO at K;rw[hR]at K;simp only at K;clear hR;go_enter Tryz.func122,Tryz.ntmps122
   go_wp2_with(first|(go_at_call 130;refine K.mono ?_;rintro q w2 ⟨g1,rfl,g2⟩)|(go_at_call 37;refine(EK _ _).mono ?_;rintro q w3 ⟨rfl,hw3⟩;obtain rfl:=hw3.symm))
   exact aqp
 .have K:=MK B rb s t vN vS vC vT hb ht w I tY hPow h16 e0 (hfk ae).1 (hfk ae).2.1 (hfk ae).2.2.2;have HP:Hid (ui s t=OZ s t):=by show _=_;unfold ui;rw[ah ae,aj e0]
  rw[HP.out];rw[e0]at c10;clear hfk hft hnx e0 HP;cases hR:OZ s t with
  |error e=>
   unfold sO at K;rw[hR]at K;simp only at K;clear hR;go_enter Tryz.func122,Tryz.ntmps122
   go_wp2_with(first|(go_at_call 131;refine K.mono ?_;rintro q w2 ⟨g1,⟨v,d,hd,rfl,g2⟩,⟨r',g3⟩,g4⟩)|(go_at_call 37;refine(w_ _ d _ _ _ _ pU).mono ?_;rintro q w3 ⟨v3,rfl,g5,g6⟩))
   go_ret;exact⟨uU g1 g6,⟨_,d+1,ae,rfl,g5⟩,⟨_,qf.later g3 (S:=λ_=>False) (.of_below g6) (qf.lt g3) id⟩,λh=>(g4 h).below g6⟩
  |ok s'=>
   unfold sO at K;rw[hR]at K;simp only at K;clear hR;go_enter Tryz.func122,Tryz.ntmps122
   go_wp2_with(first|(go_at_call 131;refine K.mono ?_;rintro q w2 ⟨g1,rfl,g2⟩)|(go_at_call 37;refine(EK _ _).mono ?_;rintro q w3 ⟨rfl,hw3⟩;obtain rfl:=hw3.symm))
   exact aqp
 .have K:=Sm B rb s t vN vS vC vT hb ht w I tY e0 (hfk ae).1 (hfk ae).2.1 (hfk ae).2.2.1 (hft ae);have HP:Hid (ui s t=BD s t):=by show _=_;unfold ui;rw[ah ae,ah ae,aj e0]
  rw[HP.out];rw[e0]at c10;clear hfk hft hnx e0 HP;cases hR:BD s t with
  |error e=>
   unfold sO at K;rw[hR]at K;simp only at K;clear hR;go_enter Tryz.func122,Tryz.ntmps122
   go_wp2_with(first|(go_at_call 132;refine K.mono ?_;rintro q w2 ⟨g1,⟨v,d,hd,rfl,g2⟩,⟨r',g3⟩,g4⟩)|(go_at_call 37;refine(w_ _ d _ _ _ _ pU).mono ?_;rintro q w3 ⟨v3,rfl,g5,g6⟩))
   go_ret;exact⟨uU g1 g6,⟨_,d+1,ae,rfl,g5⟩,⟨_,qf.later g3 (S:=λ_=>False) (.of_below g6) (qf.lt g3) id⟩,λh=>(g4 h).below g6⟩
  |ok s'=>
   unfold sO at K;rw[hR]at K;simp only at K;clear hR;go_enter Tryz.func122,Tryz.ntmps122
   go_wp2_with(first|(go_at_call 132;refine K.mono ?_;rintro q w2 ⟨g1,rfl,g2⟩)|(go_at_call 37;refine(EK _ _).mono ?_;rintro q w3 ⟨rfl,hw3⟩;obtain rfl:=hw3.symm))
   exact aqp
 .have K:=VH B rb s t vN vS vC vT hb ht w I e0;have HP:Hid (ui s t=FH s t):=by show _=_;unfold ui;rw[ah ae,ah ae,ah ae]
  rw[HP.out];rw[e0]at c10;clear hfk hft hnx e0 HP;cases hR:FH s t with
  |error e=>
   unfold sO at K;rw[hR]at K;simp only at K;clear hR;go_enter Tryz.func122,Tryz.ntmps122
   go_wp2_with(first|(go_at_call 133;refine K.mono ?_;rintro q w2 ⟨g1,⟨v,d,hd,rfl,g2⟩,⟨r',g3⟩,g4⟩)|(go_at_call 37;refine(w_ _ d _ _ _ _ pU).mono ?_;rintro q w3 ⟨v3,rfl,g5,g6⟩))
   go_ret;exact⟨uU g1 g6,⟨_,d+1,ae,rfl,g5⟩,⟨_,qf.later g3 (S:=λ_=>False) (.of_below g6) (qf.lt g3) id⟩,λh=>(g4 h).below g6⟩
  |ok s'=>
   unfold sO at K;rw[hR]at K;simp only at K;clear hR;go_enter Tryz.func122,Tryz.ntmps122
   go_wp2_with(first|(go_at_call 133;refine K.mono ?_;rintro q w2 ⟨g1,rfl,g2⟩)|(go_at_call 37;refine(EK _ _).mono ?_;rintro q w3 ⟨rfl,hw3⟩;obtain rfl:=hw3.symm))
   exact aqp
end
end Go.Proofs.Y
namespace Go.Proofs.Y
theorem GZ{s:St}{t:List UInt8}{e:Nat×Nat}(h:xx s t=some e)(h4:e.1=4):t.length<s.sz:=by
 unfold xx at h;split at h
 .assumption
 .split at h
  .cases h
  .exact aqf
theorem read_short{s:St}{t:List UInt8}{e:Nat×Nat}(h:ui s t=.error e)(h4:e.1=4):t.length<s.sz:=by
 unfold ui at h;split at h
 .unfold FB at h;split at h
  .exact aqf
  .split at h
   .exact aqP
   .split at h
    .exact aqf
    .cases h
 .split at h
  .unfold OZ at h;split at h
   .exact aqP
   .split at h
    .exact aqf
    .split at h
     .cases h
     .exact aqf
  .split at h
   .unfold BD at h;split at h
    .exact aqP
    .split at h
     .exact aqf
     .cases h
   .unfold FH at h;split at h
    .exact aqf
    .split at h
     .assumption
     .cases h
def PlB(s:St):Prop:=(s.nx=0->s.pl=0)/\(s.nx=1->s.pl=32)/\(2<=s.nx->s.pl<=300040+9*s.qx.length+(if s.nx=4 then 4 else 0))
theorem VI{s s':St}{t:List UInt8}(h:ui s t=.ok s'):s'.nx=s.nx/\s'.pl=s.pl/\(s.nx=1->s'.m=s.m/\s'.ln=s.ln)/\(s.nx=2->s'.ln=s.ln/\s'.qx.length=s.qx.length+(part t 0 (t.length-8)).length)/\(s.nx=3->s'=s):=by
 unfold ui at h;split at h
 .rename_i h0;unfold FB at h;split at h
  .cases h
  .split at h
   .cases h
   .split at h
    .cases h
    .cases h;exact⟨rfl,rfl,ae,ae,ae⟩
 .split at h
  .unfold OZ at h;split at h
   .cases h
   .split at h
    .cases h
    .split at h
     .cases h;exact⟨rfl,rfl,λ_=>⟨rfl,rfl⟩,ae,ae⟩
     .cases h
  .split at h
   .unfold BD at h;split at h
    .cases h
    .split at h
     .cases h
     .cases h;exact⟨rfl,rfl,ae,λ_=>⟨rfl,ai⟩,ae⟩
   .unfold FH at h;split at h
    .cases h
    .split at h
     .cases h
     .cases h;exact⟨rfl,rfl,ae,ae,λ_=>rfl⟩
def meas(nx ln cl:Nat):Nat:=if nx=0 then 200001 else if nx=1 then 200000 else if nx=2 then 2+(ln-cl)else if nx=3 then 1 else 0
theorem Good.nx2{s:St}{Z:List UInt8}(hG:Good s Z)(h:s.nx=2):1<=s.c/\s.qx.length<s.ln/\s.ln<=65536:=by
 cases hG with
 |frame h0 hm h1 f hf he=>exact⟨hm.head.facts.2.2.2.2.2.1,h1,hm.head.facts.2.2.2.2.2.2.2.2.2⟩
 |head h0=>omega
 |Lj h0=>omega
 |tail h0=>omega
 |done h0=>omega
theorem VJ(s:St)(t:List UInt8):(rQ s t).nx=vP s/\(rQ s t).ln=s.ln/\(rQ s t).qx=s.qx/\(rQ s t).pl=s.pl+t.length:=⟨rfl,rfl,rfl,rfl⟩
theorem ah0{s s':St}{Z t:List UInt8}(hG:Good s Z)(h4:s.nx<=3)(h:ui s t=.ok s')(ht:t.length=s.sz)(hG':Good (rQ s' t) Z):meas (rQ s' t).nx (rQ s' t).ln (rQ s' t).qx.length<meas s.nx s.ln s.qx.length:=by
 obtain⟨e1,e2,e3,e5,e6⟩:=VI h;obtain⟨m1,m2,m3,m4⟩:=VJ s' t;rw[m1,m2,m3];have hb:=hG'.bounds;unfold vP;rw[e1];have h4':s.nx=0\/s.nx=1\/s.nx=2\/s.nx=3:=ae;rcases h4' with q|q|q|q
 .rw[q];simp[meas]
 .rw[q];by_cases qc:s'.qx.length<s'.ln
  .have hl:=hb.2.1;rw[m1,m2]at hl;unfold vP at hl;rw[e1,q]at hl;simp[qc]at hl;simp[meas,qc];omega
  .simp[meas,qc]
 .rw[q];obtain⟨h1,h2,h3⟩:=hG.nx2 q;obtain⟨h5,h6⟩:=e5 q
  have h7:1<=(part t 0 (t.length-8)).length:=by rw[qE ae,ht,sz2 q];omega
  by_cases qc:s'.qx.length<s'.ln
  .simp[meas,qc];omega
  .simp[meas,qc];omega
 .rw[q];simp[meas]
theorem PlB.next{s s':St}{t:List UInt8}(hp:PlB s)(hm:s.m<=300000)(h4:s.nx<=3)(h:ui s t=.ok s')(ht:t.length=s.sz)(h2:s.nx=2->1<=min s.c (s.ln-s.qx.length)):PlB (rQ s' t):=by
 obtain⟨e1,e2,e3,e5,e6⟩:=VI h;obtain⟨m1,m2,m3,m4⟩:=VJ s' t;obtain⟨p0,p1,p2⟩:=hp;unfold PlB;rw[m1,m3,m4,e2];unfold vP;rw[e1];have h4':s.nx=0\/s.nx=1\/s.nx=2\/s.nx=3:=ae;rcases h4' with q|q|q|q
 .rw[aj q];have:=p0 q;have:=sz0 q;exact⟨ae,λ_=>ae,ae⟩
 .rw[ah ae,ah ae];have:=p1 q;have:=sz1 q;exact arx
 .rw[ah ae,ah ae];have hp2:=p2 ae;rw[ah ae]at hp2;obtain⟨h5,h6⟩:=e5 q;have hz:=sz2 q;have h7:(part t 0 (t.length-8)).length=t.length-8:=qE ae;have h8:=h2 q;exact arx
 .rw[ah ae,aj q];have hp2:=p2 ae;rw[ah ae]at hp2;have hz:=sz3 q;have:=e6 q;subst this;exact⟨ae,ae,λ_=>az⟩

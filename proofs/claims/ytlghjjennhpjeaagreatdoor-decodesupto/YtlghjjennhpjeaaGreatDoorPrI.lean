import Derived.Test.YtlghjjennhpjeaaGreatDoorPrH
set_option maxHeartbeats 4000000
set_option maxRecDepth 100000
namespace Go.Proofs.Y
open Go.Proofs.Tryz
open Go.RowKit Go.Deep
theorem LG(w:ah)(j n:Nat):(w.drewN j).drewN n=w.drewN (j+n):=awl
theorem LsI.drewN{B:Nat}{w:ah}{lb b off ct:Nat}{u:aj}{pl a:Nat}{vN vS:ai}{ns:List (aj)}{zs:aC}(I:LsI B w lb b off ct u pl a vN vS ns zs)(j:Nat):LsI B (w.drewN j) lb b off ct u pl a vN vS ns zs:=
 ⟨I.ls,I.on,I.os,I.ap,I.LV,I.size⟩
theorem DK.ape{w:ah}{lb:Nat}{v:ai}{pl a:Nat}{vN vS:ai}{tt:Nat}(h:DK w lb v pl a vN vS tt)(x:ai):DK (w.setCell ⟨lb,3,none⟩ x) lb v pl a x vS tt:=ql.set h 3 x
theorem DK.apf{w:ah}{lb:Nat}{v:ai}{pl a:Nat}{vN vS:ai}{tt:Nat}(h:DK w lb v pl a vN vS tt)(x:ai):DK (w.setCell ⟨lb,4,none⟩ x) lb v pl a vN x tt:=ql.set h 4 x
theorem DK.ahb{w:ah}{lb:Nat}{v:ai}{pl a:Nat}{vN vS:ai}{tt:Nat}(h:DK w lb v pl a vN vS tt)(x:Nat):DK (w.setCell ⟨lb,5,none⟩ (.int .i64 (x:Int))) lb v pl a vN vS x:=ql.set h 5 _
theorem DK.ajY{w:ah}{lb:Nat}{v:ai}{pl a:Nat}{vN vS:ai}{tt:Nat}(h:DK w lb v pl a vN vS tt)(x:Nat):DK (w.setCell ⟨lb,2,none⟩ (.int .i64 (x:Int))) lb v pl x vN vS tt:=ql.set h 2 _
structure LsJ(B:Nat)(w0 w:ah)(lb b off ct:Nat)(u:aj)(pl a:Nat)(vN vS:ai)(ns:List (aj))(zs:aC)(tt:Nat):Prop where
 ls:DK w lb (.slice (some ⟨b,off,none⟩) u.length ct) pl a vN vS tt
 on:w.ownsRow B 9 1 vN ns.length (zC ns)
 os:w.ownsRow B 3 1 vS zs.length (uH zs)
 ap:NR vN vS
 LV:xM w b off u
 size:B<=w.heap.size
 but:qG B (· =lb) w0 w
section
variable {B:Nat}{w0 w w1:ah}{lb b off ct:Nat}{u:aj}{pl a:Nat}{vN vS v1:ai}{ns:List (aj)}{zs:aC}{tt:Nat}{o:Obj}
theorem LsJ.ak6{nm:aj}(I:LsJ B w0 w lb b off ct u pl a vN vS ns zs tt)(Nk:lb<B)(RZ:b<B)(QN:lb≠b)(h1:w1.ownsRow B 9 1 v1 (ns.length+1) (zC ns++[.string ⟨nm.toArray⟩]))(hg:(w.alloc o).grownBy w1 vN.ownBlock)(hk:v1.ownBlock=vN.ownBlock\/v1.ownBlock=some (w.alloc o).heap.size):
  LsJ B w0 (w1.setCell ⟨lb,3,none⟩ v1) lb b off ct u pl a v1 vS (ns++[nm]) zs tt/\w1.cell? ⟨lb,3,none⟩=some vN/\w1.frozen? ⟨lb,3,none⟩=false:=by
 have tV:qG B (λ_=>False) w w1:=((qG.refl _ _ _).alloc I.size o).grown hg (by simp;have:=I.size;omega) (λg hg=>(I.on.lt g hg).1);have rq:qG B (· =lb) w (w1.setCell ⟨lb,3,none⟩ v1):=qG.setCell (S:=(· =lb)) (p:=⟨lb,3,none⟩) (tV.mono (ay _) (λ_ x=>x.elim)) (.inr rfl) v1
 have hS:w1.ownsRow B 3 1 vS zs.length (uH zs):=qY I.os (λg um=>by have h2:=I.os.lt g um;rw[hg.block g aJ (λe=>I.ap g e.symm um)];exact dI _ _ _ h2.2)
 have hL:DK w1 lb (.slice (some ⟨b,off,none⟩) u.length ct) pl a vN vS tt:=ql.later I.ls tV Nk id;refine⟨⟨hL.ape v1,?_,dR hS Nk v1,?_,I.LV.later rq RZ (λe=>QN e.symm),?_,I.but.trans rq⟩,ql.cell hL rfl,ql.frozen hL 3⟩
 .rw[Ye]at h1;rw[bM];exact dR h1 Nk v1
 .intro g Ko Oe;rcases hk with e|e
  .exact I.ap g (e▸Ko) Oe
  .exact ax5
 .have:=rq.size;have:=I.size;omega
theorem LsJ.aj0{z:Nat}(I:LsJ B w0 w lb b off ct u pl a vN vS ns zs tt)(Nk:lb<B)(RZ:b<B)(QN:lb≠b)(h1:w1.ownsRow B 3 1 v1 (zs.length+1) (uH zs++[.int .i64 (z:Int)]))(hg:(w.alloc o).grownBy w1 vS.ownBlock)(hk:v1.ownBlock=vS.ownBlock\/v1.ownBlock=some (w.alloc o).heap.size):
  LsJ B w0 (w1.setCell ⟨lb,4,none⟩ v1) lb b off ct u pl a vN v1 ns (zs++[z]) tt/\w1.cell? ⟨lb,4,none⟩=some vS/\w1.frozen? ⟨lb,4,none⟩=false:=by
 have tV:qG B (λ_=>False) w w1:=((qG.refl _ _ _).alloc I.size o).grown hg (by simp;have:=I.size;omega) (λg hg=>(I.os.lt g hg).1);have rq:qG B (· =lb) w (w1.setCell ⟨lb,4,none⟩ v1):=qG.setCell (S:=(· =lb)) (p:=⟨lb,4,none⟩) (tV.mono (ay _) (λ_ x=>x.elim)) (.inr rfl) v1
 have hS:w1.ownsRow B 9 1 vN ns.length (zC ns):=qY I.on (λg um=>by have h2:=I.on.lt g um;rw[hg.block g aJ (λe=>I.ap g um e.symm)];exact dI _ _ _ h2.2)
 have hL:DK w1 lb (.slice (some ⟨b,off,none⟩) u.length ct) pl a vN vS tt:=ql.later I.ls tV Nk id;refine⟨⟨hL.apf v1,dR hS Nk v1,?_,?_,I.LV.later rq RZ (λe=>QN e.symm),?_,I.but.trans rq⟩,ql.cell hL rfl,ql.frozen hL 4⟩
 .rw[Yf]at h1;rw[bM];exact dR h1 Nk v1
 .intro g Ko Oe;rcases hk with e|e
  .exact I.ap g Ko (e▸Oe)
  .exact ayl
 .have:=rq.size;have:=I.size;omega
theorem LsJ.ahb(I:LsJ B w0 w lb b off ct u pl a vN vS ns zs tt)(Nk:lb<B)(RZ:b<B)(QN:lb≠b)(x:Nat):LsJ B w0 (w.setCell ⟨lb,5,none⟩ (.int .i64 (x:Int))) lb b off ct u pl a vN vS ns zs x:=by have rq:qG B (· =lb) w (w.setCell ⟨lb,5,none⟩ (.int .i64 (x:Int))):=(qG.refl B (· =lb) w).setCell (p:=⟨lb,5,none⟩) (.inr rfl) _;exact⟨I.ls.ahb x,dR I.on Nk _,dR I.os Nk _,I.ap,I.LV.later rq RZ (λe=>QN e.symm),awV,I.but.trans rq⟩
theorem LsJ.ajY(I:LsJ B w0 w lb b off ct u pl a vN vS ns zs tt)(Nk:lb<B)(RZ:b<B)(QN:lb≠b)(x:Nat):LsJ B w0 (w.setCell ⟨lb,2,none⟩ (.int .i64 (x:Int))) lb b off ct u pl x vN vS ns zs tt:=by have rq:qG B (· =lb) w (w.setCell ⟨lb,2,none⟩ (.int .i64 (x:Int))):=(qG.refl B (· =lb) w).setCell (p:=⟨lb,2,none⟩) (.inr rfl) _;exact⟨I.ls.ajY x,dR I.on Nk _,dR I.os Nk _,I.ap,I.LV.later rq RZ (λe=>QN e.symm),awV,I.but.trans rq⟩
end
section
variable (B lb b off ct:Nat)(u:aj)(pl a:Nat)(vN vS:ai)(ns:List (aj))(zs:aC)(Nk:lb<B)(RZ:b<B)(QN:lb≠b)(hu:u.length<=1000000)(Ba:u.length<ct)(ha:a<=u.length)(uD:pl<=1000000000000)(VS:ns.length<1000)(Xd:zs.length=ns.length)(hzs:zs.sum<=65536)(w:ah)(I:LsI B w lb b off ct u pl a vN vS ns zs)
include Nk RZ QN hu Ba ha uD VS Xd hzs I in
theorem ad9(k:Nat)(hk:le u a 2=k)(hs:a+6+k<=u.length)(NU:1<=k)(SY:k<=255)(nm:aj)(VQ:part u (a+2) k=nm)(z:Nat)(hz:le u (a+2+k) 4=z)(akW:zs.sum+z<=65536)(hq:0<ns.length->uh nm (ns.getD (ns.length-1) [])=false):
  Calls prog 142 #[.pointer (some ⟨lb,0,none⟩)] w λq w'=>q=.returned .nilIface/\qG B (· =lb) w w'/\∃vN vS,LsI B w' lb b off ct u pl (a+(6+nm.length)) vN vS (ns++[nm]) (zs++[z]):=by
 have K:=AX lb b off ct u pl a vN vS zs.sum hu Ba ha w I.ls I.LV ag;rw[hk,show decide (1<=k/\k<=255/\a+6+k<=u.length)=true by simp;omega]at K;have sl:=wQ b off u.length ct (a:Int) ((a:Int)+(k:Int)+6) a (a+k+6) rfl aA ag ag ag;rw[show a+k+6-a=k+6 by omega]at sl;obtain⟨ce,ece⟩:∃ce,ct-a=ce:=⟨_,rfl⟩;have hce:k+6<ce:=ag;rw[ece]at sl;have sl2:=wQ b (off+a) (k+6) ce 2 (2+(k:Int)) 2 (2+k) rfl aA ag ag ag;rw[show 2+k-2=k by omega]at sl2;have hcv:=λw' (hw:xM w' b off u)=>LD (hw.part (a:=a+2) (n:=k) ag) k (qF ag) (ce-2)
 rw[show off+(a+2)=off+a+2 by omega,VQ]at hcv;have c0:=ql.cell I.ls (i:=0) rfl;have c2:=ql.cell I.ls (i:=2) rfl;have c3:=ql.cell I.ls (i:=3) rfl;have c5:=ql.cell I.ls (i:=5) rfl;have rq:∀j,xM (w.drewN j) b off u:=λj=>I.LV
 have RU:IntKind.i64.wrap ((a:Int)+(k:Int))=(a:Int)+(k:Int):=dH _ ag;have Xi:IntKind.i64.wrap ((a:Int)+(k:Int)+6)=(a:Int)+(k:Int)+6:=dH _ ag;have KW:=λj (x:Nat) hx=>BH lb _ pl a vN vS zs.sum uD ag (w.drewN j) (I.ls.drewN j) (x:Int) x (pl+a+x) rfl hx rfl
 have e4:(part u (a+2+k) 4).length=4:=qF ag
 have LW:le (part u (a+2+k) 4) 0 4=le u (a+2+k) 4:=by exact axT
 have sl3:=Iw b (off+a) (k+6) ce (2+(k:Int)) (2+k) aA ag ag;rw[show k+6-(2+k)=4 by omega]at sl3;have K4:=λn cap=>xe b (off+(a+2+k)) 4 cap (part u (a+2+k) 4) e4 ag (w.drewN n) (I.LV.part ag)
 rw[LW,hz,show off+(a+2+k)=off+a+(2+k)by omega]at K4;have ata:z<2^32:=aw6;obtain⟨S,eS⟩:∃S,zs.sum=S:=⟨_,rfl⟩;rw[eS]at c5 akW hzs;have ES:Hid (zs.sum=S):=eS;have EN:Hid (nm.length=k):=by show _=_;rw[<-VQ];exact qF ag
 obtain⟨is,his,aj1,aj2,aj3⟩:=cO ae0;obtain⟨ii,hii,aj6,aj7,aj8⟩:=cO anA;have E5:ns.length<1000:=VS;have asl:zs.length<1000:=ag;by_cases q0:ns.length=0
 .have c3':w.cell? ⟨lb,3,none⟩=some (.slice none 0 0)\/∃g cn,w.cell? ⟨lb,3,none⟩=some (.slice (some ⟨g,0,none⟩) 0 cn):=by
   rcases I.on.2 with⟨e,_⟩|⟨g,cn,cur,e,_⟩
   .left;rw[c3,e]
   .right;exact⟨g,cn,by rw[c3,e,q0]⟩
  clear KW c3 ece hk hs hq LW e4 hz eS VQ Xd VS q0;rcases c3' with c3|⟨g,cn,c3⟩
  all_goals
   go_enter func142,ntmps142
   go_wp2_with(first|(go_at_call 144;refine K.mono ?_;rintro q w2 ⟨rfl,j,xI⟩;obtain rfl:=xI.symm))
   go_big_quiet (fail)
   obtain⟨n1,en1⟩:∃n1,j+nq=n1:=⟨_,rfl⟩;rw[LG,en1];clear en1;have ahD:=hcv _ (rq n1)
   go_wp2_with fail
   go_big_quiet (fail)
   go_upto_region 11 with(first|(go_at_call 139;refine(K4 _ _).mono ?_;rintro q w' ⟨rfl,sH⟩;obtain rfl:=sH.symm))
   have I0:∀n,LsJ B w (w.drewN n) lb b off ct u pl a vN vS ns zs S:=λn=>⟨by rw[<-ES.out];exact I.ls,I.on,I.os,I.ap,I.LV,I.size,(qG.refl _ _ _).drewN _⟩
   try rw[LG]
   replace I0:=I0 (n1+nq);generalize w.drewN (n1+nq)=wd at I0⊢;have PW:=I0.size;have d3:=ql.cell I0.ls (i:=3) rfl;clear I K K4 sl sl2 sl3 hcv ahD c0 c2 c3 c5 rq Ba RU Xi
   go_wp2_with(first|(at_builtin;refine wpList_append_own_at _ rfl _ _ 22 rfl B 9 is (.string ⟨#[]⟩) 1 16 underlying22 his aj1 aj2 aj3 rfl aB _ _ _ rfl (I0.on.alloc _) ⟨wd.heap.size,0,none⟩ 1 1 [.string ⟨nm.toArray⟩] rfl rfl (cell_one_new _ _ _) (TI _) bT ag aJ ?_;intro v1 w1 EW BL _ Kw;obtain⟨g1,p1,rfl⟩:=vI EW ag;obtain⟨I1,x3,f3⟩:=I0.ak6 Nk RZ QN EW BL Kw;have yQ:=I1.size;have d4:=ql.cell I1.ls (i:=4) rfl;clear BL EW Kw)|(at_builtin;refine wpList_append_own_at _ rfl _ _ 34 rfl B 3 ii (.int .i64 0) 1 8 underlying34 hii aj6 aj7 aj8 rfl aB _ _ _ rfl (I1.os.alloc _) ⟨_,0,none⟩ 1 1 [.int .i64 (z:Int)] rfl rfl (FH _ _ _ _ aA) (TJ _) bT ag (by simp at yQ⊢;omega) ?_;intro v2 w2 vH wS _ xJ;obtain⟨g2,p2,rfl⟩:=vI vH ag;obtain⟨I2,x4,f4⟩:=I1.aj0 Nk RZ QN vH wS xJ;have d5:=ql.cell I2.ls (i:=5) rfl;have f5:=ql.frozen I2.ls 5;have d2:=ql.cell I2.ls (i:=2) rfl;have f2:=ql.frozen I2.ls 2;clear wS vH xJ))
   exact ayU
 .replace hq:=hq ag;obtain⟨c0',ec⟩:∃c0',ns.length=c0'+1:=⟨ns.length-1,ag⟩;have QH:=I.on;obtain⟨g,cn,ev⟩:=vI QH ag;rw[ev]at QH c3;have hla:=QH.cellAt c0' ag;rw[Py ag]at hla;rw[show ns.length-1=c0' by omega]at hq;obtain⟨la,el⟩:∃la,ns.getD c0' []=la:=⟨_,rfl⟩;rw[el]at hla hq;rw[ec]at c3 VS;unfold uh at hq;obtain⟨hq1,Yy⟩:=auY.1 hq;clear KW QH ev el ec ece hk hs hq LW e4 hz eS VQ Xd q0;go_enter func142,ntmps142
  go_wp2_with(first|(go_at_call 144;refine K.mono ?_;rintro q w2 ⟨rfl,j,xI⟩;obtain rfl:=xI.symm))
  go_big_quiet (fail)
  obtain⟨n1,en1⟩:∃n1,j+nq=n1:=⟨_,rfl⟩;rw[LG,en1];clear en1;have ahD:=hcv _ (rq n1)
  go_wp2_with fail
  go_big_quiet (fail)
  go_upto_region 11 with(first|(go_at_call 139;refine(K4 _ _).mono ?_;rintro q w' ⟨rfl,sH⟩;obtain rfl:=sH.symm))
  have I0:∀n,LsJ B w (w.drewN n) lb b off ct u pl a vN vS ns zs S:=λn=>⟨by rw[<-ES.out];exact I.ls,I.on,I.os,I.ap,I.LV,I.size,(qG.refl _ _ _).drewN _⟩
  try rw[LG]
  replace I0:=I0 (n1+nq);generalize w.drewN (n1+nq)=wd at I0⊢;have PW:=I0.size;have d3:=ql.cell I0.ls (i:=3) rfl;clear I K K4 sl sl2 sl3 hcv ahD c0 c2 c3 c5 rq Ba RU Xi
  go_wp2_with(first|(at_builtin;refine wpList_append_own_at _ rfl _ _ 22 rfl B 9 is (.string ⟨#[]⟩) 1 16 underlying22 his aj1 aj2 aj3 rfl aB _ _ _ rfl (I0.on.alloc _) ⟨wd.heap.size,0,none⟩ 1 1 [.string ⟨nm.toArray⟩] rfl rfl (cell_one_new _ _ _) (TI _) bT ag aJ ?_;intro v1 w1 EW BL _ Kw;obtain⟨g1,p1,rfl⟩:=vI EW ag;obtain⟨I1,x3,f3⟩:=I0.ak6 Nk RZ QN EW BL Kw;have yQ:=I1.size;have d4:=ql.cell I1.ls (i:=4) rfl;clear BL EW Kw)|(at_builtin;refine wpList_append_own_at _ rfl _ _ 34 rfl B 3 ii (.int .i64 0) 1 8 underlying34 hii aj6 aj7 aj8 rfl aB _ _ _ rfl (I1.os.alloc _) ⟨_,0,none⟩ 1 1 [.int .i64 (z:Int)] rfl rfl (FH _ _ _ _ aA) (TJ _) bT ag (by simp at yQ⊢;omega) ?_;intro v2 w2 vH wS _ xJ;obtain⟨g2,p2,rfl⟩:=vI vH ag;obtain⟨I2,x4,f4⟩:=I1.aj0 Nk RZ QN vH wS xJ;have d5:=ql.cell I2.ls (i:=5) rfl;have f5:=ql.frozen I2.ls 5;have d2:=ql.cell I2.ls (i:=2) rfl;have f2:=ql.frozen I2.ls 2;clear wS vH xJ))
  exact ayU

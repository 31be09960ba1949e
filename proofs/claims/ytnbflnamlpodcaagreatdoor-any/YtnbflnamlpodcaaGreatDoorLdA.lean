import Derived.Test.YtnbflnamlpodcaaGreatDoorSmG
import Derived.Test.YtnbflnamlpodcaaGreatDoorRows
import Derived.LaidMore
import Derived.LaidSub
import Derived.Stop.LaidErr
set_option maxHeartbeats 1000000
set_option maxRecDepth 100000
namespace Go.Proofs.Y
open YtnbflnamlpodcaaGreatDoor
open Go.RowKit Go.Deep Go.Lf Go.Conc Go.ConcN Go.Gh Go.Hp
theorem Dy.congr{M:Nat}{sh sh':Nat->vH}{e:Nat}(h0:0<M)(h:∀i,i<M->sh i=sh' i)(hE:Dy M sh e):Dy M sh' e:=by
 have hA:Ak M sh->Ak M sh':=λx i hi=>by rw[<-h 0 h0,<-h i hi];exact x i hi
 have hA':Ak M sh'->Ak M sh:=λx i hi=>by rw[h 0 h0,h i hi];exact x i hi
 have hD:Dup M sh->Dup M sh':=λ⟨t,h1,h2⟩=>⟨t,h1,by rw[<-h _ h1,<-h t ae];exact h2⟩;have hD':Dup M sh'->Dup M sh:=λ⟨t,h1,h2⟩=>⟨t,h1,by rw[h _ h1,h t ae];exact h2⟩;have e0:=h 0 h0;rcases hE with⟨a,b⟩|⟨a,b,c⟩|⟨a,b,c,d⟩|⟨a,b,c,d,e⟩
 .exact .inl ⟨a,λx=>b (hA' x)⟩
 .exact .inr (.inl ⟨a,hA b,hD c⟩)
 .exact .inr (.inr (.inl ⟨a,hA b,λx=>c (hD' x),by rw[<-e0];exact d⟩))
 .exact .inr (.inr (.inr ⟨a,hA b,λx=>c (hD' x),d,by rw[<-e0];exact e⟩))
theorem Ii.congr{M:Nat}{sh sh':Nat->vH}{l:List UInt8}(h0:0<M)(h:∀i,i<M->sh i=sh' i)(hF:Ii M sh l):Ii M sh' l:=by have e0:=h 0 h0;obtain⟨h1,h2⟩:=hF;rw[e0]at h1 h2;exact⟨h1,λt ht=>by rw[<-h t ht];exact h2 t ht⟩
theorem UE.congr{M:Nat}{sh sh':Nat->vH}{vb:Value}{e:Nat}{w:World}(h0:0<M)(h:∀i,i<M->sh i=sh' i)(hR:UE M sh vb e w):UE M sh' vb e w:=by
 have h':∀i,i<M->sh' i=sh i:=λi hi=>(h i hi).symm
 have e0:=h 0 h0;rcases hR with⟨a,b,c|⟨c,d,n⟩⟩|⟨a,b,l,gb,vd,c,u,v,q⟩
 .exact .inl ⟨a,b,.inl (c.congr h0 h)⟩
 .exact .inl ⟨a,b,.inr ⟨c,d.congr h0 h,λ⟨l,hl⟩=>n ⟨l,hl.congr h0 h'⟩⟩⟩
 .rw[e0]at v q;exact .inr ⟨a,b.congr h0 h,l,gb,vd,c.congr h0 h,λl' hl'=>u l' (hl'.congr h0 h'),v,q⟩
theorem afB{sh:Nat->vH}{vb:Value}{e:Nat}{w:World}(hR:UE 0 sh vb e w):e=12/\vb=.slice none 0 0:=by
 have hA:Ak 0 sh:=λi hi=>absurd hi ae
 have hD:¬Dup 0 sh:=λ⟨t,h,_⟩=>absurd h ae;rcases hR with⟨a,b,c|⟨_,d,_⟩⟩|⟨_,d,_⟩
 .rcases c with⟨_,x⟩|⟨_,_,x⟩|⟨x,_⟩|⟨x,_⟩
  .exact absurd hA x
  .exact absurd x hD
  .exact⟨x,b⟩
  .exact absurd x a
 .rcases d with⟨x,_⟩|⟨x,_⟩|⟨x,_⟩|⟨_,_,_,x,_⟩
  .cases x
  .cases x
  .cases x
  .omega
 .rcases d with⟨x,_⟩|⟨x,_⟩|⟨x,_⟩|⟨_,_,_,x,_⟩
  .cases x
  .cases x
  .cases x
  .omega
section
variable {K N C m:Nat}{f:Nat->qQ}{d:qQ->List UInt8}
theorem XA{ct:Nat}{xs:List Nat}{g:Nat->Nat}{vb:Value}{er:Nat}{w:World}(hp:∀i,i<N->qP (OY (xy K N C m f d i))=.ok (Fh K N C m f d i))(hd:∀j,j<m->(d (f j)).length=(f j).l)(hO:Once N xs)(hct:ct<=N)(hK:1<=K)(hP:Prm (IW (λi=>OY (xy K N C m f d (xs.getD i 0))) ct).length g)
  (hR:UE (IW (λi=>OY (xy K N C m f d (xs.getD i 0))) ct).length (λi=>yN (IW (λi=>OY (xy K N C m f d (xs.getD i 0))) ct) (g i)) vb er w):
  (∀i,i<ct->erS (OY (xy K N C m f d (xs.getD i 0)))=0)/\(K<=ct->er=0/\∃gb vd,vb=.slice (some ⟨gb,0,none⟩) m m/\CB (qA m f) ((qC m f).map Int.toNat) (qW (λj=>d (f j)) m) gb m vd w)/\(ct<K->er=12/\vb=.slice none 0 0):=by
 have hxl:∀i,i<N->xs[i]?=some (xs.getD i 0)/\xs.getD i 0<N:=λi hi=>by
  have h1:xs[i]?=some (xs.getD i 0):=by have:=hO.len;rw[aO,aY ae];rfl
  exact⟨h1,hO.lt i _ h1⟩
 have hpe:∀i,i<ct->qP (OY (xy K N C m f d (xs.getD i 0)))=.ok (Fh K N C m f d (xs.getD i 0)):=λi hi=>hp _ (hxl i ae).2
 have htk:=aaL (bs:=λi=>OY (xy K N C m f d (xs.getD i 0))) ct hpe;have hlen:(IW (λi=>OY (xy K N C m f d (xs.getD i 0))) ct).length=ct:=by rw[htk];simp
 refine⟨λi hi=>by simp only[erS,hpe i hi],?_⟩;rw[hlen]at hP hR;rw[htk]at hR;rcases eG ct with h0|h0
 .subst h0;exact⟨λh=>ae,λ_=>afB hR⟩
 .have hR':=hR.congr h0 (sh':=λi=>Fh K N C m f d (xs.getD (g i) 0)) λi hi=>adF (s:=λi=>Fh K N C m f d (xs.getD i 0)) (n:=ct) (hP.lt i hi)
  refine agS hd (x:=λi=>xs.getD (g i) 0) (λi j hi hj hne e=>?_) hK hR';have e1:=(hxl (g i) (by have:=hP.lt i hi;omega)).1;have e2:=(hxl (g j) (by have:=hP.lt j hj;omega)).1;have e':xs.getD (g i) 0=xs.getD (g j) 0:=e;rw[<-e']at e2;exact hP.inj i j hi hj hne (hO.inj _ _ _ e1 e2)
end
theorem ahN{w:World}{K N C m pb cap:Nat}{f:Nat->qQ}{Dt:Nat->List UInt8}{vb:Value}{bo:Option Addr}(hS:XB K N C m f Dt pb vb w)(h:UG w bo m cap f (ZQ Dt)):BlS w bo m (λi=>(f i).k) (λi=>ZQ Dt (f i)) (λi=>(f i).d):=by
 refine⟨λhm=>?_,λi hi=>?_⟩
 .obtain⟨b,o,h1,_,h3⟩:=h.bc.here hm;exact⟨b,o,h1,h3⟩
 .obtain⟨B,hB⟩:=hS.dat i hi;have:=hS.hm;rw[afC Dt ae (hS.nm i hi)];exact Lies.owned hB
theorem SlB.less{w:World}{bi:Option Addr}{n n':Nat}{bs:Nat->List UInt8}{vi:Nat->Value}(h:SlB w bi n bs vi)(hn:n'<=n):SlB w bi n' bs vi:=
 ⟨λh0=>by obtain⟨b,o,e,hc⟩:=h.cells ae;exact⟨b,o,e,λi hi=>hc i ae⟩,λi hi=>h.EW i ae⟩
theorem any_ok{w:World}{vr vo:Value}{k n c z5:Int}{zr zo:List Int}{a:Addr}(hr:Ints w vr zr)(hlr:zr.length<9223372036854775807)(ho:Ints w vo zo)(hlo:zo.length<9223372036854775807)(hk:In64 k)(hn:In64 n)(hc:In64 c)(h5:In64 z5)(hG:Gl a w):
  Ok Tryz.prog (λv w'=>v=.bool true/\Kz w.heap.size w w') (solo (G (Frame.enter Tryz.prog 3 #[vr,.int .i64 k,.int .i64 n,.int .i64 c,vo,.int .i64 z5] .normal) []) w) #[]:=by
 have hP:=acz k n c;have hN:=Vh n;obtain⟨⟨q1,q2,q3⟩,q4,q5⟩:=id hP;obtain⟨Y,v,xk,hcl⟩:=OJ w (λ_=>False) (λb h=>h.elim);have hsub:Sub w v:=⟨by rw[xk.size];exact ak _,λb cc t fr h=>hcl b cc t fr (λx=>x) h⟩;have hsz:w.heap.size=v.heap.size:=xk.size
 have e:Frame.enter Tryz.prog 3 #[vr,.int .i64 k,.int .i64 n,.int .i64 c,vo,.int .i64 z5] .normal=(base 3).at ⟨#[vr,.int .i64 k,.int .i64 n,.int .i64 c,vo,.int .i64 z5]++Array.replicate 127 undef,[]⟩ [.code uy]:=by rw[enter_at _ Tryz.func3 (c:=uy) ag,show Tryz.f3.ntmps-(#[vr,.int .i64 k,.int .i64 n,.int .i64 c,vo,.int .i64 z5]:Array Value).size=127 from by rw[Tryz.ntmps3];rfl]
 rw[e]
 have hB0:Fz Tryz.prog (uj λ_=>False) 0 #[G ((base 3).at ⟨#[vr,.int .i64 k,.int .i64 n,.int .i64 c,vo,.int .i64 z5]++Array.replicate 127 undef,[]⟩ [.code uy]) []] w #[] (λ_=>0):=
  afD (λop h=>jJ) (λop h=>jJ) (λop h=>jJ) rfl
 let St:Goroutine->World->Prop:=λgr W=>∃T m f Dt pb vb v1,TN1 vo (.int .i64 z5) pb vb T/\XB (TU k n) (Ie n) (XC c) m f Dt pb vb v1/\rJ v.heap.size v v1/\AtE (λ_=>False) Y (TU k n) (Ie n) (XC c) vb (frN T) v1 gr W
 have key:=afE (Stop:=St) (Y:=Y) (x4:=vo) (x5:=.int .i64 z5) (yO (λ_=>False)) (hr.sub hsub) hlr hk hn hc (λT m f Dt pb vb v1 hT1 hS1 hb1=>ahO (yO _) hT1 hS1 λT' hT' y hy=>.stop λd=>⟨T',m,f,Dt,pb,vb,v1,hT',hS1,hb1,rfl,hy.at d⟩);refine late (Fin:=Ok Tryz.prog _) (Shun:=uj λ_=>False) (e:=0) Jg (λ_ _ _ h=>h) (λgs1 a1 W1 sl1 t1 q1 h01 hst hB1=>?_) (key w xk.t) w.drawn _ none #[] _ rfl hB0;obtain⟨T,m,f,Dt,pb,vb,v1,hT1,hS1,hb1,rfl,hs1⟩:=hst W1.drawn;replace hs1:qH (λ_=>False) Y W1 v1:=hs1;clear key hst;have hz1:=Vj xk.t hs1 hb1 (λb h=>h.elim);rw[<-hsz]at hz1;obtain⟨bo,cap,rfl,hA1⟩:=hS1.args;have hG1:Gl a v1:=(hG.sub hsub).sub (tK hb1);have ho1:Ints v1 vo zo:=(ho.sub hsub).sub (tK hb1);have hdl:∀j,j<m->(ZQ Dt (f j)).length=(f j).l:=λj hj=>(hA1.dat j hj).1
 have hNm:uG (qA m f):=(S_ (qK.refl m f) (adA hS1.hm hS1.nm)).2 hS1.fits;have hFw:=afF hS1.hm hS1.alr (qK.refl m f);have hgood:=λi hi=>ady (i:=i) (d:=ZQ Dt) hP hNm hFw hdl hi
 have afG:∀i,i<Ie n->qP (OY (xy (TU k n) (Ie n) (XC c) m f (ZQ Dt) i))=.ok (Fh (TU k n) (Ie n) (XC c) m f (ZQ Dt) i):=λi hi=>by obtain⟨s1,s2,s3,s4,s5⟩:=hgood i hi;have hp:=adu s1 s2 s3 s4 s5 [];rw[dC,aj rfl]at hp;exact hp
 have hlen:∀i,i<Ie n->(OY (xy (TU k n) (Ie n) (XC c) m f (ZQ Dt) i)).length<=4611686018427387904:=λi hi=>by obtain⟨s1,s2,s3,s4,s5⟩:=hgood i hi;have:=(aiS s1 s3 s4).2;omega
 refine Nr Jg h01 hB1 hs1 hA1 hP hS1.fits (λg hR _=>afF hS1.hm hS1.alr hR) hG1.tab ae ?_;intro g1 bh Wg ov gs2 W2 sl2 t2 q2 Y2 v2 hR1 amr h02 hB2 hs2 Tf ahP ams als hown2;have hz2:=hz1.trans (ams.kz (h0:=w.heap.size) (λb h=>h.elim) hz1.size)
 have hX1:∀b,(False\/b=Wg)->w.heap.size<=b:=λb h=>by
  rcases h with h|rfl
  .exact h.elim
  .exact aK hz1.size Tf
 have hgg:∀i,i<m->g1 i=f i:=XD hS1.fits (qK.refl m f) hR1 (adA hS1.hm hS1.nm) amr;rw[Zn hgg,Zo hgg,TE m hgg]at hown2
 have hown:∀i,i<Ie n->OwnB 0 v2 (ov i) (OY (xy (TU k n) (Ie n) (XC c) m f (ZQ Dt) i)):=λi hi=>by rw[<-abI (d:=ZQ Dt) ae ae ae];exact hown2 i hi
 have hS2:=hS1.sub ahP
 let St3:Goroutine->World->Prop:=λgr W=>∃(T3:Array Value)(xs:List Nat)(ct b cp:Nat)(v3:World),TN3 pb (.slice bo m cap) ct (.slice (some ⟨b,0,none⟩) ct cp) T3/\Once (Ie n) xs/\TU k n<=ct/\ct<=Ie n/\ct<=cp/\rJ v2.heap.size v2 v3/\SlB v3 (some ⟨b,0,none⟩) ct (λi=>OY (xy (TU k n) (Ie n) (XC c) m f (ZQ Dt) (xs.getD i 0))) (λi=>ov (xs.getD i 0))/\gr=G ((base 11).at ⟨#[.slice (some ⟨b,0,none⟩) ct cp]++Array.replicate 55 undef,[]⟩ [.code uY]) [ahQ T3]/\qH (λb=>False\/b=Wg) Y2 W v3
 have ahq:=aj3 (Stop:=St3) (Y:=Y2) (w:=v2) (va:=.slice (some ⟨bh,0,none⟩) (Ie n) (Ie n)) (yO (λb=>False\/b=Wg)) hT1 (λT2 hT2=>aj6 (Stop:=St3) (yO _) hT2 hS2 (ho1.sub ahP) hlo h5 ae ae ae als hown hlen (λT3 xs ct b cp v3 a1 a2 a3 a4 a5 a6 a7=>ahR (yO _) a1 λT' a1' y hy=>.stop λd=>⟨T',xs,ct,b,cp,v3,a1',a2,a3,a4,a5,a6,a7,rfl,hy.at d⟩));refine late (Fin:=Ok Tryz.prog _) (Shun:=uj (λb=>False\/b=Wg)) (e:=0+Ie n) Jg (λ_ _ _ h=>h) (λgs3 a3 W3 sl3 t3 q3 h03 hst hB3=>?_) (ahq W2 hs2) W2.drawn gs2 sl2 t2 q2 h02 hB2;obtain⟨T3,xs,ct,b,cp,v3,hT3,hOn,hc1,hc2,hc3,hb3,hSl,rfl,hs3⟩:=hst W3.drawn;replace hs3:qH (λb=>False\/b=Wg) Y2 W3 v3:=hs3;clear ahq hst;have hz3:=hz2.trans (Vj hs2 hs3 (h0:=w.heap.size) (hb3.mono (by have:=hb1.size';have:=ahP.1;omega)) hX1);have Ij:=ahP.trans (tK hb3);have hG3:=hG1.sub Ij;refine M_ Jg h03 hB3 hs3 hSl ae hG3 ae ?_;intro e4 g4 vb4 er4 gv4 X4 gs4 W4 sl4 t4 q4 Y4 v4 he4 hP4 ant h04 hB4 hs4 hXa hXb JK amu alu hR4;obtain⟨amv,alv,-⟩:=XA afG hdl hOn hc2 ae hP4 hR4;obtain⟨rfl,gb4,vd4,rfl,hC4⟩:=alv hc1;have hz4:=hz3.trans (amu.kz (h0:=w.heap.size) hX1 hz3.size);have hX4:∀b,X4 b->w.heap.size<=b:=λb hb=>(hXb b hb).elim (hX1 b) λh=>aK hz3.size h
 have hS4:=(hS1.sub Ij).sub JK
 let St5:Goroutine->World->Prop:=λgr W=>∃(T5:Array Value),TN4 pb (.slice bo m cap) ct (.slice (some ⟨b,0,none⟩) ct cp) (.slice (some ⟨gb4,0,none⟩) m m) (.slice (some ⟨gv4,0,none⟩) ct ct) (.int .i64 ((0:Nat):Int)) T5/\gr=G ((base 11).at ⟨#[.slice (some ⟨b,0,none⟩) (TU k n-1) cp]++Array.replicate 55 undef,[]⟩ [.code uY]) [ahS T5]/\qH X4 Y4 W v4
 have alx:=afH (Stop:=St5) (Y:=Y4) (w:=v4) (y1:=.slice (some ⟨gb4,0,none⟩) m m) (y2:=.slice (some ⟨gv4,0,none⟩) ct ct) (y3:=.int .i64 ((0:Nat):Int)) (yO X4) hT3 (λT4 hT4=>ahT (Stop:=St5) (yO X4) hT4 hS4 ae hc1 hc3 ae (λT' hT' y hy=>.stop λd=>⟨T',hT',rfl,hy.at d⟩));refine late (Fin:=Ok Tryz.prog _) (Shun:=uj X4) (e:=e4) Jg (λ_ _ _ h=>h) (λgs5 a5 W5 sl5 t5 q5 h05 hst hB5=>?_) (alx W4 hs4) W4.drawn gs4 sl4 t4 q4 h04 hB4;obtain⟨T5,hT5,rfl,hs5⟩:=hst W5.drawn;replace hs5:qH X4 Y4 W5 v4:=hs5;clear alx hst;have hz5:=hz4.trans (Vj hs4 hs5 (h0:=w.heap.size) (rJ.refl _ v4) hX4);refine M_ Jg h05 hB5 hs5 ((hSl.sub JK).less (n':=TU k n-1) ae) ae (hG3.sub JK) ae ?_;intro e6 g6 vb6 er6 gv6 X6 gs6 W6 sl6 t6 q6 Y6 v6 he6 hP6 anu h06 hB6 hs6 anv amw XE amx am7 hR6;obtain⟨-,-,amy⟩:=XA afG hdl hOn ae ae hP6 hR6;obtain⟨rfl,rfl⟩:=amy ae;have hz6:=hz5.trans (amx.kz (h0:=w.heap.size) hX4 hz5.size);have hX6:∀b,X6 b->w.heap.size<=b:=λb hb=>(amw b hb).elim (hX4 b) λh=>aK hz5.size h
 have hS6:=hS4.sub XE;have hA6:UG v6 bo m cap f (ZQ Dt):=(Ij.trans (JK.trans XE)).args hA1;have hvs:v.heap.size<=v6.heap.size:=aK hb1.size' (Ij.trans (JK.trans XE)).1
 have hv6:∀i,i<ct->v6.cell? ⟨gv4,i,none⟩=some (.int .i64 0):=λi hi=>by have:=XE.cell (alu i hi);rw[amv i hi]at this;exact this
 refine ahU h06 hB6 (afI (yO X6) hT5 (λT7 hT7=>aj7 (yO X6) hT7 hS6.par ae (by have:=hS1.hm;omega) ae ae hv6 (agU hdl (hC4.sub XE)) (ahN hS6 hA6) λT' kk w' h12 hbl=>?_) W6 hs6);refine acA (yO _) Tryz.func3 ag (y:=.bool true) (λu=>?_) (λu d hst' hend=>?_)
 .rw[Sem.runT_eq,lK (fn:=Tryz.f3) (t:=12) rfl _ _ _,events_results_tmp (fn:=Tryz.f3) (t:=12) rfl _ _,h12]
 .refine⟨rfl,#[],ai,λd'=>⟨.bool true,hend d',rfl,?_⟩⟩;have:=Vj hs6 hst' (h0:=w.heap.size) (hbl.mono ae) hX6;exact hz6.trans ⟨this.os,this.output,this.size,this.block⟩
end Go.Proofs.Y
namespace Go.Proofs.Y
open YtnbflnamlpodcaaGreatDoor
open Go.RowKit
theorem aiz:Tryz.prog.globalNamed "cairn/sum.fourSteps" =some 2:=ag
theorem aly:(Tryz.prog.globals[2]?).map (·.type)=some 203:=ag
theorem alz:Tryz.prog.globalNamed "internal/strconv.uint64pow10" =some 4:=ag
theorem amz:(Tryz.prog.globals[4]?).map (·.type)=some 240:=ag
theorem afJ:Tryz.prog.globalNamed "cairn/fault.TooEarly" =some 0:=ag
theorem aj8:(Tryz.prog.globals[0]?).map (·.type)=some 59:=ag
theorem alA:Tryz.prog.globalNamed "errors.errorType" =some 1:=ag
theorem star: "*" ++ "errors.errorString" = "*errors.errorString" :=au
theorem ahV(u:TypeId)(h:Tryz.prog.typeName? 3 u=some "*errors.errorString"):u=247:=
 typeName_ptr_named (nm:= "errors.errorString") (by rw[star];kernel_rfl) ag au u (by rw[star];exact h)
theorem alB:(Tryz.prog.cutTypes.find? (·.1== "internal/reflectlite.rtype")).map (·.2)=some 191:=ag
theorem aj9:Tryz.prog.types.size=278:=ag
theorem afK:((List.range 278).filter λt=>Tryz.prog.rowNamed t [101,114,114,111,114])=[59]:=ag
theorem Qn{L:List (String×DataW Unit)}{W:World}(h:laidMetH Tryz.prog L W)(n:String)(d:DataW Unit)(hf:L.filter (λx=>x.1==n)=[(n,d)])(hn:d.handleName?.isNone=true):laidMet Tryz.prog [(n,d)] W:=by have:=h.filter (λx=>x.1==n);rw[hf]at this;rwa[MakeChecks.laidMetH_plain _ _ _ (by simp[hn])]at this
theorem adJ{W:World}(h:laidMetH Tryz.prog Rows.anyRow.laid W):Tab W:=by
 have h1:=Qn h "cairn/sum.fourSteps" Rows.laid_cairn_sum_fourSteps ax ax
 have hT:Lib.TabIs Tryz.prog W "cairn/sum.fourSteps" .u64 (Dj.map λ(n:Nat)=>(n:Int)):=
  Lib.tabIs_of_head aiz aly Tryz.underlying203 Tryz.underlying64 ag ag h1
 have hc:∀i,i<16->W.cell? ⟨2,i,none⟩=some (.int .u64 ((Dj.getD i 0:Nat):Int)):=by intro i hi;have:=hT.cell aiz i (by simpa[Dj]using hi);rw[this];simp only[aO,bQ];cases Dj[i]?<;>simp
 exact⟨cell_lt (hc 0 ae),hc⟩
theorem adI{W:World}(h:laidMetH Tryz.prog Rows.anyRow.laid W):Pow W/\4<W.heap.size:=by have h1:=Qn h "internal/strconv.uint64pow10" Rows.laid_internal_strconv_uint64pow10 ax ax;have hT:Pow W:=Lib.tabIs_of_head alz amz Tryz.underlying240 Tryz.underlying64 ag ag h1;exact⟨hT,cell_lt (Lib.TabIs.cell hT alz 0 au)⟩
theorem YV{W:World}(h:laidMetH Tryz.prog Rows.anyRow.laid W):∃a,Early W a:=by have h1:=Qn h "cairn/fault.TooEarly" Rows.laid_cairn_fault_TooEarly ax ax;obtain⟨a,s,hv,_⟩:=laid_sentinel h1 afJ aj8 Tryz.underlying59 ahV Tryz.underlying247 Tryz.underlying267 rfl rfl Tryz.underlying9 ag ag;exact⟨a,by unfold Early;simpa using World.var?_cell afJ hv 0⟩
theorem abP{W:World}(h:laidMetH Tryz.prog Rows.anyRow.laid W):Aj W:=by
 have h':=(laidMetH_iff.1 h).2;obtain⟨name,u,ty,e1,e2,e3,e4,e5⟩:=h' ("errors.errorType",Rows.laid_errors_errorType) (List.mem_filter.2 ⟨by simp[Rows.anyRow],rfl⟩);have en:name=[101,114,114,111,114]:=(d_ e1).symm;subst en;obtain rfl:=d_ (alB.symm.trans e2);have hm:ty∈(List.range 278).filter λt=>Tryz.prog.rowNamed t [101,114,114,111,114]:=List.mem_filter.2 ⟨gp.2 (by rw[<-aj9];exact e3),e4⟩
 rw[afK]at hm;obtain rfl:=dV.1 hm;have hh:typeHandle Tryz.prog 59=.pointer (some ⟨7,59,none⟩):=ag;rw[hh]at e5;unfold Aj;simpa using World.var?_cell alA e5 0

import Derived.Test.YtlghjjennhpjeaaGreatDoorCoB
import Derived.Deep.OwnRows
set_option maxHeartbeats 2000000
set_option maxRecDepth 100000
namespace Go.Proofs.Y
open Go.Proofs.Tryz
open Go.Conc Go.RowKit Go.Gh
open Go.ConcR (Payload)
section
variable [Payload][qR]{main:Bool}{Wg C n B:Nat}{Cl:Nat->Prop}
structure P0(Wg C n B:Nat)(Cl:Nat->Prop)(w0 w:ah):Prop where
 bs:Bs C B w
 ex:Ex Wg C n B Cl (λ_=>False) w0 w
omit [qR]in
theorem P0.rely{w0 w w₁:ah}(h:P0 Wg C n B Cl w0 w)(r:Ro Wg C n B Cl w w₁):P0 Wg C n B Cl w0 w₁:=⟨h.bs.rely r,h.ex.rely r⟩
structure P1(Wg C n B:Nat)(Cl:Nat->Prop)(w0:ah)(N2:Nat)(w:ah):Prop where
 bs:Bs C B w
 ex:Ex Wg C n B Cl (λ_=>False) w0 w
 lo2:w0.heap.size<=N2
 m2:qQ w N2
 h2:w.heap[N2]?=some (.cells Tryz.zeroCells197 197)
omit [qR]in
theorem P1.rely{w0 w w₁:ah}{N2:Nat}(h:P1 Wg C n B Cl w0 N2 w)(r:Ro Wg C n B Cl w w₁):P1 Wg C n B Cl w0 N2 w₁:=⟨h.bs.rely r,h.ex.rely r,h.lo2,(r.yx _).2 h.m2,(r.mine _ h.m2).trans h.h2⟩
omit [Payload][qR]in
theorem Ed(w:ah)(o:Obj):(w.alloc o).heap[w.heap.size]?=some o:=by show(w.heap.push o)[w.heap.size]?=some o;simp
omit [qR]in
theorem P0.alloc{w0 w:ah}(h:P0 Wg C n B Cl w0 w):P1 Wg C n B Cl w0 w.heap.size (w.alloc (.cells Tryz.zeroCells197 197)):=
 ⟨h.bs.alloc _,Uh h.ex h.bs _,h.ex.size,zO (w:=w) (w':=w.alloc _) rfl h.bs.tg (ay _) iE,Ed w _⟩
omit [Payload][qR]in
theorem am7(f:Nat):zQ f 0=zQ f 1:=by
 have:=Oq f 0;rw[<-this];apply nO;intro i;rw[pO];split
 .rename_i h;subst h;simp[zQ,zero_mul]
 .rfl
omit [qR]in
theorem P1.alloc{w0 w:ah}{N2:Nat}(f:Nat)(h:P1 Wg C n B Cl w0 N2 w):PF Wg C n B Cl w0 N2 w.heap.size f 1 (w.alloc (.cells Tryz.zeroCells197 197)):=by
 have qB:=h.bs.lt h.m2
 refine⟨h.bs.alloc _,Uh h.ex h.bs _,h.lo2,h.ex.size,ag,sD (w:=w) (w':=w.alloc _) rfl iE h.m2,zO (w:=w) (w':=w.alloc _) rfl h.bs.tg (ay _) iE,
  (dI _ _ _ qB).trans h.h2,?_⟩
 rw[Ed,DN f,am7]
structure PE(Wg C n B:Nat)(Cl:Nat->Prop)(w0:ah)(N2 f:Nat)(w:ah):Prop where
 bs:Bs C B w
 ex:Ex Wg C n B Cl (λ_=>False) w0 w
 m2:qQ w N2
 h2:w.heap[N2]?=some (.cells (zQ f 256) 197)
omit [qR]in
theorem PE.rely{w0 w w₁:ah}{N2 f:Nat}(h:PE Wg C n B Cl w0 N2 f w)(r:Ro Wg C n B Cl w w₁):PE Wg C n B Cl w0 N2 f w₁:=⟨h.bs.rely r,h.ex.rely r,(r.yx _).2 h.m2,(r.mine _ h.m2).trans h.h2⟩
omit [Payload][qR]in
theorem uP(f m:Nat):(zQ f m).size=256:=by simp[zQ]
omit [Payload][qR]in
theorem J8(f m:Nat):∀v∈zQ f m,v.oneCell'=true:=by intro v hv;simp only[zQ,Array.mem_ofFn]at hv;obtain⟨i,rfl⟩:=hv;rfl
omit [qR]in
theorem PF.ne0{w0 w:ah}(h0:Bs C B w0){N2 N3 f m:Nat}(h:PF Wg C n B Cl w0 N2 N3 f m w):N2≠C/\N3≠C:=by have:=h0.hC;have:=h.lo2;have:=h.lo3;omega
omit [qR]in
theorem PF.cell{w0 w:ah}{N2 N3 f m:Nat}(h:PF Wg C n B Cl w0 N2 N3 f m w){x:Nat}(hx:x<256)(hm:x<m):w.cell? ⟨N3,x,none⟩=some (.int .u8 ((mul x f:Nat):Int)):=by rw[cell_of _ h.h3,BZ _ _ _ hx,ax hm]
omit [qR]in
theorem PF.cell0{w0 w:ah}{N2 N3 f m:Nat}(h:PF Wg C n B Cl w0 N2 N3 f m w)(hx:m<256):w.cell? ⟨N3,m,none⟩=some (.int .u8 0):=by rw[cell_of _ h.h3,BZ _ _ _ hx,au ag];rfl
omit [qR]in
theorem PF.thaw{w0 w:ah}{N2 N3 f m:Nat}(h:PF Wg C n B Cl w0 N2 N3 f m w)(x:Nat):w.frozen? ⟨N3,x,none⟩=false:=wo _ h.h3 x
theorem ael:∃k,∀(f:Nat)(w:ah),f<256->Bs C B w->acO prog main (Ro Wg C n B Cl) (Dg Wg C n B Cl) 124 #[.int .u8 (f:Int)] k w λv w'=>v=.agg (zQ f 256)/\Bs C B w'/\Ex Wg C n B Cl (λ_=>False) w w':=by
 obtain⟨kx,hx⟩:=aao (main:=main) (qj (Wg:=Wg) (C:=C) (n:=n) (B:=B) (Cl:=Cl));co_apply Exists.intro;intro f w hf hb;co_apply V9 qj func124 aF rfl (Q:=λa' w'=>a'.defers=[]/\∃N2,a'.tmps.getD 2 undef=.pointer (some ⟨N2,0,none⟩)/\PE Wg C n B Cl w N2 f w')
 .rintro a' w' ⟨hd,N2,ht,hE⟩;refine⟨hd,λw₁ r=>?_⟩;replace hE:=hE.rely r;obtain⟨h1,h2⟩:=P7 (fn:=Tryz.f124) rfl ht (Jn hE.h2 (uP f 256));refine⟨_,h1,?_,rfl,hE.bs,hE.ex⟩;rw[h2];exact tH (.inl hE.m2) (hE.bs.lt hE.m2) (λe he=>Ui hE.h2 (uP f 256) e (mem_seen he))
 have h0:=hb;simp only[ntmps124,fH,dQ,d_,Nat.reduceAdd,Nat.reduceSub,eU,eQ,eH,eP,dw,df];have hF:P0 Wg C n B Cl w w:=⟨hb,.refl w⟩;co_apply cu qj;co_reg qj
 co_opw P0.rely hF (skip) (rw[listed_nil avc];exact zx hF.bs.hC _ rfl)
 replace hF:=hF.alloc;generalize Wh:Array.size (World.heap _)=N2 at hF⊢;clear Wh;co_apply b_ qj;co_then;co_apply cu qj;co_reg qj
 co_opw P1.rely hF (skip) (rw[listed_nil avc];exact zx hF.bs.hC _ rfl)
 replace hF:=hF.alloc f;generalize hN3:Array.size (World.heap _)=N3 at hF⊢;clear hN3;co_apply b_ qj;co_then;co_apply cu qj;co_apply cu qj;co_reg qj;co_op PF.rely hF (co_quiet qj);co_apply b_ qj;co_then;co_apply lI qj;co_apply ku qj (PO Wg C n B Cl w N2 N3 f) muO _ 255
 .exact⟨0,1,mul 1 f,_,_,_,_,_,_,_,_,_,_,_,_,_,_,_,_,_,_,_,_,_,_,_,ag,rfl,λ_=>rfl,hF,by rw[show mul 1 f=f from by rw[mul_comm ag hf,mul_one hf]];rfl⟩
 .simp[muO]
 .rintro a w' ⟨k,b,fa,v1,v5,v6,v7,v8,v9,v10,v11,v12,VP,Xf,S9,S_,Tc,PS,PU,v20,v21,v22,TK,v24,TL,v26,hk,Jg,hfa,hF,rfl⟩
  have hk8:b<=256:=by exact ayG
  have tV:1<=b:=awt
  co_go qj PF.rely hF (co_quiet qj)
  co_split qj (decide (((b:Nat):Int)<256))
  .intro qB;have xZ:b<256:=avJ;clear qB
   have hk7:k<8:=by
    rcases bK k 8 with h|h
    .exact h
    .obtain rfl:k=8:=ag;have:b=256:=Jg;omega
   obtain rfl:fa=mul b f:=hfa hk7;have hmb:mul b f<256:=mul_lt ag
   co_go qj PF.rely hF (co_quiet qj)
   co_apply ku qj (PI Wg C n B Cl w N2 N3 f b) muI _ 256
   .exact⟨0,_,_,_,_,_,_,_,_,_,_,_,_,_,_,_,_,_,_,_,_,_,iH _,hF,rfl⟩
   .simp[muI]
   .rintro a w' ⟨j,u1,u5,u6,u7,u8,u9,u12,u13,u14,u15,u16,u17,u18,u19,u20,u21,u22,u23,u24,u25,u26,hj,hF,rfl⟩
    co_go qj PF.rely hF (co_quiet qj)
    co_split qj (decide (((j:Nat):Int)<((b:Nat):Int)))
    .intro Oc;have ah3:j<b:=avK;clear Oc;have atx:(j:Int)<256:=ag
     have arc:b+j<256:=by have:∀k:Fin 8,2^k.val+2^k.val<=256:=aB;have:=this ⟨k,hk7⟩;exact ay1
     have Ai:(b:Int)+(j:Int)<256:=ag;have Ti:0<=(b:Int)+(j:Int):=ag;have htn:((b:Int)+(j:Int)).toNat=b+j:=ag;have RU:IntKind.i64.wrap ((b:Int)+(j:Int))=((b+j:Nat):Int):=jG;have hsp:=pow_add ⟨k,hk7⟩ j f (by rw[<-(show b=2^k from Jg)];exact ah3);simp only[<-(show b=2^k from Jg)]at hsp;have hxr:bits .xor .u8 ((mul j f:Nat):Int) ((mul b f:Nat):Int)=((mul (b+j) f:Nat):Int):=by rw[u8_xor_nat _ _ (mul_lt ag) hmb,hsp]
     have VX:∀(w:ah)(es:aN),(Instr.indexAt 197 (.pointer (some ⟨N3,0,none⟩)) (.int .i64 (j:Int))).events prog w es=es:=λw es=>events_indexAt_array _ _ _ _ _ _ underlying197 ⟨ag,ag⟩
     have hiy:∀(w:ah)(es:aN),(Instr.indexAt 197 (.pointer (some ⟨N3,0,none⟩)) (.int .i64 ((b:Int)+(j:Int)))).events prog w es=es:=λw es=>events_indexAt_array _ _ _ _ _ _ underlying197 ⟨ag,ag⟩
     co_ctl qj
     co_then
     co_ctl qj
     co_ctl qj
     co_ctl qj
     co_reg qj;co_op PF.rely hF (co_quiet qj);co_op PF.rely hF (co_quiet qj);co_apply b_ qj;co_then;co_reg qj;co_op PF.rely hF (co_quiet qj);co_op PF.rely hF (co_quiet qj);co_op PF.rely hF (co_quiet qj);co_op PF.rely hF (co_quiet qj)
     co_opw PF.rely hF (skip) (co_still qj)
     co_opw PF.rely hF (have hc:=hF.cell (x:=j) ag ag) (refine tH (.inl hF.m3) (hF.bs.lt hF.m3) ?_;co_evs (exact⟨_,rfl,rfl⟩))
     clear hc;co_op PF.rely hF (co_quiet qj);co_op PF.rely hF (co_quiet qj)
     co_opw PF.rely hF (skip) (co_still qj)
     co_opw PF.rely hF (have hc:=hF.cell0 arc;have hz:=hF.thaw (b+j)) (refine P5 hF.m3 (hF.ne0 h0).2 (hF.bs.lt hF.m3) ?_;co_evs (exact⟨_,_,rfl,rfl⟩))
     replace hF:=hF.set h0;rw[hsp]at hF;clear hc hz;co_apply b_ qj;co_then;co_reg qj;co_op PF.rely hF (co_quiet qj);co_op PF.rely hF (co_quiet qj);co_apply b_ qj;co_then;have E8:IntKind.i64.wrap ((j:Int)+1)=((j+1:Nat):Int):=jG;simp only[E8];refine⟨⟨j+1,_,_,_,_,_,_,_,_,_,_,_,_,_,_,_,_,_,_,_,_,_,ag,hF,rfl⟩,?_⟩;simp[muI];omega
    .intro Oc;obtain rfl:j=b:=avL;clear Oc
     co_go qj PF.rely hF (co_quiet qj)
     co_apply opsC_call qj rfl aF rfl
     .walk_nrm;exact hx _ _ hmb
     rintro v w' ⟨rfl,hs⟩;replace hF:PF Wg C n B Cl w N2 N3 f (j+j) w':=hs.elim (λe=>e▸hF) (λr=>hF.rely r);clear hs;walk_nrm;co_op PF.rely hF (co_quiet qj);co_apply b_ qj;co_then;have SY:k=7\/k<7:=ag
     have hjj:aeL (k+1) (j+j):=by have e:j=2^k:=Jg;show j+j=2^(k+1);rw[jH];omega
     have RU:IntKind.i64.wrap ((j:Int)*2)=((j+j:Nat):Int):=jG
     have htx:k+1<8->tx (mul j f)=mul (j+j) f:=by intro hk3;have:=ahU ⟨k,ag⟩ ⟨f,hf⟩;simp only[<-(show j=2^k from Jg),<-(show j+j=2^(k+1)from hjj)]at this;exact this
     generalize tx (mul j f)=fa at htx⊢
     co_go qj PF.rely hF (co_quiet qj)
     refine⟨⟨k+1,j+j,fa,_,_,_,_,_,_,_,_,_,_,_,_,_,_,_,_,_,_,_,_,_,_,_,ag,hjj,htx,hF,rfl⟩,?_⟩;simp[muO];omega
  .intro qB
   obtain rfl:k=8:=by
    have:=gQ qB;rcases bK k 8 with h|h
    .have h2:∀k:Fin 8,2^k.val<256:=aB;have:=h2 ⟨k,h⟩;exact ay1
    .omega
   obtain rfl:b=256:=Jg
   co_go qj PF.rely hF (co_quiet qj)
   co_apply opsC_cons rfl aF;intro w₁ r;replace hF:=hF.rely r;clear r;have hz:Tryz.zeroCells197.size=256:=avE;obtain⟨T,hT,hTs,hT1⟩:∃T,zQ f 256=T/\T.size=256/\∀v∈T,v.oneCell'=true:=⟨_,rfl,uP f _,J8 f _⟩;have h3:=hF.h3;rw[hT]at h3;rw[QQ rfl rfl (Jn h3 hTs)];simp only[uponK_value];refine⟨?_,?_⟩
   .unfold listed;rw[acR rfl rfl];exact tH (.inl hF.m3) (hF.bs.lt hF.m3) (λe he=>Ui h3 hTs e (mem_seen he))
   clear h3;walk_nrm;co_apply opsC_cons rfl aF;intro w₁ r;replace hF:=hF.rely r;clear r;have r_:=Ou (c':=T) hF.h2 hz hTs hT1;rw[Ot (v:=.agg T) rfl rfl rfl r_];simp only[uponK_skip];refine⟨?_,?_⟩
   .unfold listed;rw[QR (v:=.agg T) rfl rfl rfl];exact ahV hF.m2 (hF.ne0 h0).1 (hF.bs.lt hF.m2) (λe he=>QS (c':=T) hF.h2 hz hTs hT1 e (mem_seen he))
   clear r_;have hE:PE Wg C n B Cl w N2 f (World.setRow w₁ N2 T):=⟨hF.bs.row _ _,acS hF.ex h0 hF.lo2 _,sD (w:=w₁) (w':=World.setRow w₁ N2 _) rfl iR hF.m2,by rw[hT];exact Ov _ hF.h2⟩;walk_nrm;co_apply b_ qj;co_then;co_apply wpC_ret qj;exact⟨rfl,N2,rfl,hE⟩
end
end Go.Proofs.Y
namespace Go.Proofs.Y
open Go.Proofs.Tryz
open Go.RowKit
theorem LK(a:Nat)(ha:a<9223372036854775808):(BitVec.ofInt 64 (a:Int)).toNat=a:=by rw[av5,au1];exact dB ag
theorem Fh(a b:Nat)(ha:a<9223372036854775808)(hb:b<9223372036854775808):bits .xor .i64 (a:Int) (b:Int)=((a^^^b:Nat):Int):=by have hx:a^^^b<2^63:=gY ag ag;show IntKind.i64.wrap ((BitVec.ofInt 64 (a:Int)^^^BitVec.ofInt 64 (b:Int)).toNat:Int)=_;rw[au0,LK a ha,LK b hb,iq];omega
theorem acj(a b:Nat)(ha:a<9223372036854775808)(hb:b<9223372036854775808):bits .and .i64 (a:Int) (b:Int)=((a&&&b:Nat):Int):=by have hx:a&&&b<2^63:=Nat.and_lt_two_pow _ ag;show IntKind.i64.wrap ((BitVec.ofInt 64 (a:Int)&&&BitVec.ofInt 64 (b:Int)).toNat:Int)=_;rw[BitVec.toNat_and,LK a ha,LK b hb,iq];omega
theorem akD(x k:Nat):(x:Int)/2^k=((x/2^k:Nat):Int):=aA
theorem afr(x k:Nat)(hx:x<9223372036854775808):bits .and .i64 ((x:Int)/2^k) 1=((x/2^k%2:Nat):Int):=by have h:x/2^k<=x:=nz _ _;rw[akD,show(1:Int)=((1:Nat):Int)from rfl,acj _ _ ag ag,Nat.and_one_is_mod]
theorem VJ{k:Nat}(hk:k<8):2^k<=128:=by have:2^k<=2^7:=m_ ag ag;exact axb
theorem akE{x k:Nat}(hx:x<65536)(hk:k<8):wrap64 ((x:Int)*2^k)=((x*2^k:Nat):Int):=by have h1:=VJ hk;have h2:x*2^k<=65536*128:=iI ag h1;have e:(x:Int)*2^k=((x*2^k:Nat):Int):=aA;rw[e];exact IntWalk.wrap64_in _ ag
theorem aem{x k:Nat}(hx:x<512)(hk:k<8):x*2^k<65536:=by have h1:=VJ hk;have h2:x*2^k<=511*128:=iI ag h1;omega
theorem ack{a b:Nat}(ha:a<65536)(hb:b<65536):a^^^b<65536:=gY (n:=16) ha hb
theorem akF{a b k p:Nat}(h:b/2^k%2=1)(H:p=zu a b k):p^^^(a*2^k)=zu a b (k+1):=by rw[zu,ax h,H]
theorem am8{a b k p:Nat}(h:¬b/2^k%2=1)(H:p=zu a b k):p=zu a b (k+1):=by rw[zu,au h,H]
theorem akG{n p m:Nat}(h:p/2^(8+n)%2=1)(H:D9 (n+1) p=m):D9 n (p^^^(285*2^n))=m:=by rw[D9,ax h]at H;exact H
theorem am9{n p m:Nat}(h:¬p/2^(8+n)%2=1)(H:D9 (n+1) p=m):D9 n p=m:=by rw[D9,au h]at H;exact H
theorem afs{x k:Nat}(hx:x<9223372036854775808)(h:(bits .and .i64 ((x:Int)/2^k) 1==1)=true):x/2^k%2=1:=by rw[afr x k hx]at h;have h:=fK h;omega
theorem akH{x k:Nat}(hx:x<9223372036854775808)(h:(bits .and .i64 ((x:Int)/2^k) 1==1)=false):¬x/2^k%2=1:=by intro h1;rw[afr x k hx,h1]at h;exact absurd h aB
theorem RN{p x k:Nat}(hp:p<65536)(hx:x<512)(hk:k<8):bits .xor .i64 (p:Int) (wrap64 ((x:Int)*2^k))=((p^^^(x*2^k):Nat):Int):=by have:=aem hx hk;rw[akE ag hk,Fh _ _ ag ag]
theorem acm{p k:Nat}(hp:p<65536)(hk:k<8):bits .xor .i64 (p:Int) (wrap64 (285*2^k))=((p^^^(285*2^k):Nat):Int):=
 RN (x:=285) hp ag hk
theorem am_{q a b:Nat}(h:q=D9 7 (zu a b 8)):(q:Int)%256=((vK a b:Nat):Int):=by rw[vK,<-h];simp
theorem GG(a b:Nat)(ha:a<256)(hb:b<256)(w:ah):
  Calls prog 38 #[.int .u8 (a:Int),.int .u8 (b:Int)] w λe w'=>e=.returned (.int .u8 (vK a b:Nat))/\w'=w:=by
 go_enter func38,ntmps38;go_wp2
 go_loop [5,6] (λvp vi=>∃k p:Nat,k<=8/\p<65536/\vp=.int .i64 (p:Int)/\vi=.int .i64 (k:Int)/\Hid (p=zu a b k)) (λ_ i=>8-(intOf i).toNat)
 case atStart=>exact⟨0,0,ag,ag,rfl,rfl,rfl⟩
 case round=>
  obtain⟨k,p,hk,hp,rfl,rfl,H⟩:=hrel;by_cases qB:k<8
  .go_wp2
   .have h1:(bits .and .i64 ((b:Int)/2^k) 1==1)=true:=dG;have h2:=afs ag h1;clear h1
    go_round
    case rel=>exact⟨k+1,p^^^(a*2^k),ag,ack hp (aem ag qB),Tv (RN hp ag qB),aV,akF h2 H.out⟩
    case measure=>simp[intOf];omega
   .have h1:(bits .and .i64 ((b:Int)/2^k) 1==1)=false:=dG;have h2:=akH ag h1;clear h1
    go_round
    case rel=>exact⟨k+1,p,ag,hp,rfl,aV,am8 h2 H.out⟩
    case measure=>simp[intOf];omega
  .have e:k=8:=ag;subst e;have H2:Hid (D9 7 p=D9 7 (zu a b 8)):=by show D9 7 p=_;rw[H.out]
   go_wp2
   go_loop [5,7] (λvp vi=>∃j p:Nat,7<=j/\j<=14/\p<65536/\vp=.int .i64 (p:Int)/\vi=.int .i64 (j:Int)/\Hid (D9 (j-7) p=D9 7 (zu a b 8))) (λ_ i=>(intOf i).toNat)
   case atStart=>exact⟨14,p,ag,ag,hp,rfl,rfl,H2.out⟩
   case round=>
    obtain⟨j,q,hj1,hj2,hq,rfl,rfl,G⟩:=hrel;by_cases NV:8<=j
    .obtain⟨n,rfl⟩:∃n,j=8+n:=⟨j-8,ag⟩
     have G2:Hid (D9 (n+1) q=D9 7 (zu a b 8)):=by have:=G.out;rw[show 8+n-7=n+1 by omega]at this;exact this
     clear G;go_wp2
     .have h1:(bits .and .i64 ((q:Int)/2^(8+n)) 1==1)=true:=dG;have h2:=afs ag h1;clear h1
      go_round
      case rel=>exact⟨8+n-1,q^^^(285*2^n),ag,ag,ack hq (aem ag ag),Tv (acm hq ag),Tv ag,by rw[show 8+n-1-7=n by omega];exact akG h2 G2.out⟩
      case measure=>simp[intOf];omega
     .have h1:(bits .and .i64 ((q:Int)/2^(8+n)) 1==1)=false:=dG;have h2:=akH ag h1;clear h1
      go_round
      case rel=>exact⟨8+n-1,q,ag,ag,hq,rfl,Tv ag,by rw[show 8+n-1-7=n by omega];exact am9 h2 G2.out⟩
      case measure=>simp[intOf];omega
    .have e:j=7:=ag;subst e;have HG:Hid (q=D9 7 (zu a b 8)):=G.out;clear G;go_wp2;go_ret;exact⟨G8 (am_ HG.out),rfl⟩
def zL(a:Nat):Nat->Nat->Nat
 |0,_=>0
 |n+1,b=>if vK a b=1 then b else zL a n (b+1)
theorem VK{a:Nat}(ha:a<256):∀n b,1<=b->b+n=256->(∀c,1<=c->c<b->mul a c≠1)->zL a n b=inv a
 |0,b,h1,h2,h=>by
  rw[zL];by_cases h0:a=0
  .subst h0;exact inv_zero.symm
  .have hi:=YO ha;exact absurd (Tu ha h0) (h _ (by have:=aal ha h0;omega) ag)
 |n+1,b,h1,h2,h=>by
  rw[zL];have hb:b<256:=ag;split
  .rename_i h3;rw[KG ha hb]at h3;exact acM ha hb h3
  .rename_i h3;rw[KG ha hb]at h3;refine VK ha n (b+1) ag ag (λc c1 c2=>?_);by_cases e:c=b
   .subst e;exact h3
   .exact h c c1 ag
theorem acn{a:Nat}(ha:a<256):zL a 255 1=inv a:=VK ha 255 1 ag ag (λc h1 h2=>ag)
theorem aco{a b n m:Nat}(h:vK a b=1)(H:zL a (n+1) b=m):b=m:=by rw[zL,ax h]at H;exact H
theorem aen{a b n m:Nat}(h:¬vK a b=1)(H:zL a (n+1) b=m):zL a n (b+1)=m:=by rw[zL,au h]at H;exact H
theorem aa3(a:Nat)(ha:a<256)(w:ah):
  Calls prog 63 #[.int .u8 (a:Int)] w λe w'=>e=.returned (.int .u8 (inv a:Nat))/\w'=w:=by
 go_enter func63,ntmps63;go_wp2
 go_loop [3] (λvi=>∃b:Nat,1<=b/\b<=256/\vi=.int .i64 (b:Int)/\Hid (zL a (256-b) b=inv a)) (λi=>256-(intOf i).toNat)
 case atStart=>exact⟨1,ag,ag,rfl,acn ha⟩
 case round=>
  obtain⟨b,tV,rq,rfl,H⟩:=hrel;by_cases qB:b<256
  .have H2:Hid (zL a ((255-b)+1) b=inv a):=by
    have:=H.out;rw[show 256-b=(255-b)+1 by omega]at this;exact this
   clear H
   go_wp2_with(first|(go_at_call 38;refine(GG _ _ dG dG _).mono ?_;rintro e w' ⟨rfl,rfl⟩))
   .have h1:(((vK a b:Nat):Int)==1)=true:=dG;have h2:vK a b=1:=by have:=fK h1;omega
    go_ret;exact⟨G8 (by rw[<-aco h2 H2.out]),rfl⟩
   .have h1:(((vK a b:Nat):Int)==1)=false:=dG;have h2:¬vK a b=1:=by have:=gQ h1;omega
    go_round
    case rel=>exact⟨b+1,ag,ag,aV,by rw[show 256-(b+1)=255-b by omega];exact aen h2 H2.out⟩
    case measure=>simp[intOf];omega
  .have e:b=256:=ag;subst e;have HG:Hid (0=inv a):=H.out;clear H;go_wp2;go_ret;exact⟨G8 (by rw[<-HG.out];rfl),rfl⟩
theorem amj(a b:Nat)(ha:a<256)(hb:b<256)(w:ah):
  Calls prog 38 #[.int .u8 (a:Int),.int .u8 (b:Int)] w λe w'=>e=.returned (.int .u8 (mul a b:Nat))/\w'=w:=by
 have h:=GG a b ha hb w;rw[KG ha hb]at h;exact h
end Go.Proofs.Y
namespace Go.Proofs.Y
open Go.Proofs.Tryz
open Go.RowKit Go.Deep
theorem Tryz.aau:(prog.info? 5).map (λi=>(i.zero,i.size,i.bytes))=some (some (.int .u8 0),1,1):=ak
theorem Tryz.anD:(prog.info? 24).map (λi=>(i.zero,i.size,i.bytes))=some (some (.slice none 0 0),1,24):=ak
def sN(k i j:Nat):Nat:=if i<k then(if j=i then 1 else 0)else inv ((i^^^j)%256)
structure zT(w w':ah)(n:Nat)(f:Nat->Nat):Prop where
 row:w'.rowIs w.heap.size 5 n (λj=>.int .u8 (f j:Nat))
 size:w'.heap.size=w.heap.size+1
 below:Below w.heap.size w w'
theorem aeo(n:Nat)(hn:n<=128)(w:ah):(Instr.makeSlice 24 (.int .i64 (n:Int)) (.int .i64 (n:Int))).run prog w=.ok (.slice (some ⟨w.heap.size,0,none⟩) n n) (w.alloc (.cells (madeCells #[.int .u8 0] n) 5)):=
 run_make_row' (P:=prog) 24 5 (.int .u8 0) 1 underlying24 Tryz.aau rfl .i64 .i64 n ag ag w
theorem acp(w:ah)(n:Nat):zT w (w.alloc (.cells (madeCells #[.int .u8 0] n) 5)) n (λ_=>0):=
 ⟨World.rowIs_made w (.int .u8 0) n 5,aA,(aO _ _).alloc (ay _) _⟩
theorem zT.set{w w':ah}{n:Nat}{f:Nat->Nat}(h:zT w w' n f)(i v:Nat){g:Nat->Nat}(hg:∀j,j<n->g j=if j=i then v else f j):
  zT w (w'.setCell ⟨w.heap.size,i,none⟩ (.int .u8 (v:Int))) n g:=
 ⟨(h.row.set i _).congr (λj hj=>by rw[hg j hj];split<;>rfl),lu,h.below.setCell (ay _) _⟩
theorem zT.congr{w w':ah}{n:Nat}{f g:Nat->Nat}(h:zT w w' n f)(e:∀j,j<n->f j=g j):zT w w' n g:=
 ⟨h.row.congr (λj hj=>by rw[e j hj]),h.size,h.below⟩
theorem acr(n:Nat)(hn:n<=128)(w:ah):∃w1,(Instr.makeSlice 24 (.int .i64 (n:Int)) (.int .i64 (n:Int))).run prog w=.ok (.slice (some ⟨w.heap.size,0,none⟩) n n) w1/\zT w w1 n (λ_=>0):=
 ⟨_,aeo n hn w,acp w n⟩
theorem RJ(k i:Nat)(hk:k<=128)(hi:i<k)(w:ah):
  Calls prog 93 #[.int .i64 (k:Int),.int .i64 (i:Int)] w λe w'=>e=.returned (.slice (some ⟨w.heap.size,0,none⟩) k k)/\zT w w' k (sN k i):=by
 obtain⟨w1,hmk,h0⟩:=acr k hk w;have hc:w1.cell? ⟨w.heap.size,i,none⟩=some (.int .u8 0):=h0.row.cell hi;have hf:w1.frozen? ⟨w.heap.size,i,none⟩=false:=h0.row.frozen i;have h1:=h0.set i 1 (g:=sN k i) (λj hj=>by unfold sN;rw[ax hi]);go_enter func93,ntmps93;go_wp2;go_ret;exact⟨rfl,h1⟩
theorem KO{a b:Nat}(ha:a<128)(hb:b<128):a^^^b<128:=gY (n:=7) ha hb
theorem Am{k i j:Nat}:sN k i j<256:=by
 unfold sN;split
 .split<;>omega
 .exact YO (jb _ ag)
theorem aly(k i:Nat)(hk:k<=128)(hi:i<128)(w:ah):
  Calls prog 75 #[.int .i64 (k:Int),.int .i64 (i:Int)] w λe w'=>e=.returned (.slice (some ⟨w.heap.size,0,none⟩) k k)/\zT w w' k (sN k i):=by
 by_cases Jd:i<k
 .go_enter func75,ntmps75
  go_wp2_with(first|(go_at_call 93;refine(RJ _ _ hk Jd _).mono ?_;rintro e w' ⟨rfl,h1⟩))
  go_ret;exact⟨rfl,dG⟩
 .obtain⟨w1,hmk,h0⟩:=acr k hk w;go_enter func75,ntmps75;go_wp2;clear hmk
  go_loopw [6,17] (λ_ vi wr=>∃c:Nat,c<=k/\vi=.int .i64 (c:Int)/\zT w wr k (λj=>if j<c then sN k i j else 0)) (λ_ i _=>k-(intOf i).toNat)
  case atStart=>exact⟨0,ag,rfl,h0.congr (λj _=>iT)⟩
  case round=>
   obtain⟨c,hc,rfl,hN⟩:=hrel;clear h0;by_cases qB:c<k
   .have hx:bits .xor .i64 (i:Int) (c:Int)=((i^^^c:Nat):Int):=Fh _ _ ag ag;have hxl:=KO hi (show c<128 by omega);obtain⟨x,ex⟩:∃x,i^^^c=x:=⟨_,rfl⟩;rw[ex]at hx hxl
    have hcell:wr.cell? ⟨w.heap.size,c,none⟩=some (.int .u8 0):=by have:=hN.row.cell qB;exact axj
    have hfr:wr.frozen? ⟨w.heap.size,c,none⟩=false:=hN.row.frozen c
    have Wh:=hN.set c (inv x) (g:=λj=>if j<c+1 then sN k i j else 0) (λj hj=>by
     by_cases e:j=c
     .subst e;rw[ax (dZ j),ax rfl];unfold sN;rw[au Jd,ex,dB ag]
     .rw[au e];by_cases hj2:j<c
      .rw[ax hj2,ax ag]
      .rw[au hj2,au ag])
    clear ex hN
    go_wp2_with(first|(go_at_call 94;refine(aeK _ ag _).mono ?_;rintro e w' ⟨rfl,rfl⟩))
    go_roundw
    case rel=>exact⟨c+1,ag,aV,Wh⟩
    case measure=>simp[intOf];omega
   .have e:c=k:=ag;subst e;go_wp2;go_ret;exact⟨rfl,hN.congr (λj hj=>avo)⟩
theorem Eb(n:Nat)(hn:n<=128)(w:ah):(Instr.makeSlice 23 (.int .i64 (n:Int)) (.int .i64 (n:Int))).run prog w=.ok (.slice (some ⟨w.heap.size,0,none⟩) n n) (w.alloc (.cells (madeCells #[.slice none 0 0] n) 24)):=
 run_make_row' (P:=prog) 23 24 (.slice none 0 0) 24 underlying23 Tryz.anD rfl .i64 .i64 n ag ag w
def aci(B k c i:Nat):ai:=if i<c then .slice (some ⟨B+1+i,0,none⟩) k k else .slice none 0 0
structure Iz(w w':ah)(n k c:Nat)(f:Nat->Nat->Nat):Prop where
 head:w'.rowIs w.heap.size 24 n (aci w.heap.size k c)
 rows:∀i,i<c->w'.rowIs (w.heap.size+1+i) 5 k (λj=>.int .u8 (f i j:Nat))
 size:w'.heap.size=w.heap.size+1+c
 below:Below w.heap.size w w'
theorem Xa(w:ah)(n k:Nat)(f:Nat->Nat->Nat):Iz w (w.alloc (.cells (madeCells #[.slice none 0 0] n) 24)) n k 0 f:=
 ⟨(World.rowIs_made w (.slice none 0 0) n 24).congr (λi _=>by unfold aci;rw[au ag]),λi h=>ag,aA,(aO _ _).alloc (ay _) _⟩
theorem W_(n k:Nat)(hn:n<=128)(f:Nat->Nat->Nat)(w:ah):∃w1,(Instr.makeSlice 23 (.int .i64 (n:Int)) (.int .i64 (n:Int))).run prog w=.ok (.slice (some ⟨w.heap.size,0,none⟩) n n) w1/\Iz w w1 n k 0 f:=
 ⟨_,Eb n hn w,Xa w n k f⟩
theorem Iz.step{w wr w':ah}{n k c:Nat}{f:Nat->Nat->Nat}(h:Iz w wr n k c f)(hn:zT wr w' k (f c)):
  Iz w (w'.setCell ⟨w.heap.size,c,none⟩ (.slice (some ⟨wr.heap.size,0,none⟩) k k)) n k (c+1) f:=by
 have hz:=h.size;have hb:∀j,j<wr.heap.size->w'.heap[j]?=wr.heap[j]?:=λj hj=>hn.below.block j hj
 refine⟨?_,?_,by rw[show(w'.setCell _ _).heap.size=w'.heap.size from by simp];rw[hn.size,hz];omega,(h.below.trans (hn.below.mono ag)).setCell (ay _) _⟩
 .refine((h.head.of_block (hb _ ag)).set c _).congr (λj _=>?_);unfold aci;by_cases e:j=c
  .subst e;rw[ax rfl,ax ag,hz]
  .rw[au e];by_cases hj:j<c
   .rw[ax hj,ax ag]
   .rw[au hj,au ag]
 .intro i hi;refine World.rowIs.setOther ?_ (by show w.heap.size+1+i≠w.heap.size;omega) _;by_cases e:i=c
  .subst e;have:=hn.row;rw[hz]at this;exact this
  .exact(h.rows i ag).of_block (hb _ ag)
def aoy(w:ah)(v:ai)(l:aj):Prop:=
 (v=.slice none 0 0/\l=[])\/∃a cap,v=.slice (some a) l.length cap/\∀j (hj:j<l.length),w.cell? (a.add j)=some (.int .u8 (l[j].toNat:Int))
theorem QE{w:ah}{base e c:Nat}{v:ai}{f:Nat->Nat}{x:Nat}(h:w.ownsRow base e 1 v (c+1) ((List.range c).map (λj=>Value.int .u8 (f j:Nat))++[.int .u8 (x:Int)]))(hx:f c=x):
  w.ownsRow base e 1 v (c+1) ((List.range (c+1)).map λj=>.int .u8 (f j:Nat)):=by
 rw[dP,iP];simp only[je,kU];rw[hx];exact h
theorem JG(x:Int):∀u∈[Value.int .u8 x],u.oneCell'=true:=og
theorem IA{w wr w1:ah}{e c:Nat}{v:ai}{xs:aK}{o:Obj}(h:Below w.heap.size w wr)(vO:wr.ownsRow w.heap.size e 1 v c xs)(hg:(wr.alloc o).grownBy w1 v.ownBlock):Below w.heap.size w w1:=
 (h.alloc h.size o).grown hg (by have:=h.size;simp;omega) (λk hk=>(vO.lt k hk).1)
theorem aas(k i:Nat)(hk:k<=128)(hi:i<128)(w:ah):
  Calls prog 36 #[.int .i64 (k:Int),.int .i64 (i:Int)] w λe w'=>∃v,e=.returned v/\w'.ownsRow w.heap.size 5 1 v k ((List.range k).map λj=>.int .u8 (sN k i j:Nat))/\Below w.heap.size w w':=by
 obtain⟨i0,zo,xY,wW,vV⟩:=cO Tryz.aau;go_enter func36,ntmps36;go_wp2
 go_loopw [5,6,7] (λv vi _ wr=>∃c:Nat,c<=k/\vi=.int .i64 (c:Int)/\wr.ownsRow w.heap.size 5 1 v c ((List.range c).map λj=>.int .u8 (sN k i j:Nat))/\Below w.heap.size w wr) (λ_ i _ _=>k-(intOf i).toNat)
 case atStart=>exact⟨0,ag,rfl,bY _ _ _ _,aO _ _⟩
 case round=>
  obtain⟨c,hc,rfl,vO,A_⟩:=hrel;have hsz:=A_.size;by_cases qB:c<k
  .by_cases Jd:i<k
   .by_cases hci:c=i
    .have EX:Hid (sN k i c=1):=by
      show sN k i c=1;unfold sN;rw[ax Jd,ax hci]
     have asz:((i:Int)==(c:Int))=true:=aJ;clear hci
     go_wp2_with(at_builtin;refine di _ rfl _ _ 24 rfl w.heap.size 5 i0 (.int .u8 0) 1 1 underlying24 zo xY wW vV rfl aB _ _ _ rfl (vO.alloc _) ⟨wr.heap.size,0,none⟩ 1 1 [.int .u8 1] rfl rfl (cell_one_new _ _ _) (JG _) bT ag aJ ?_;intro v' w1 tZ qA _)
     have vH:=QE (f:=sN k i) tZ EX.out;have rq:=IA A_ vO qA;clear tZ qA;go_wp2
     go_roundw
     case rel=>exact⟨c+1,ag,aV,vH,rq⟩
     case measure=>simp[intOf];omega
    .have EX:Hid (sN k i c=0):=by
      show sN k i c=0;unfold sN;rw[ax Jd,au hci]
     have asz:((i:Int)==(c:Int))=false:=aJ;clear hci
     go_wp2_with(at_builtin;refine di _ rfl _ _ 24 rfl w.heap.size 5 i0 (.int .u8 0) 1 1 underlying24 zo xY wW vV rfl aB _ _ _ rfl (vO.alloc _) ⟨wr.heap.size,0,none⟩ 1 1 [.int .u8 0] rfl rfl (cell_one_new _ _ _) (JG _) bT ag aJ ?_;intro v' w1 tZ qA _)
     have vH:=QE (f:=sN k i) tZ EX.out;have rq:=IA A_ vO qA;clear tZ qA;go_wp2
     go_roundw
     case rel=>exact⟨c+1,ag,aV,vH,rq⟩
     case measure=>simp[intOf];omega
   .have hx:bits .xor .i64 (i:Int) (c:Int)=((i^^^c:Nat):Int):=Fh _ _ ag ag;have hxl:=KO hi (show c<128 by omega);obtain⟨x,ex⟩:∃x,i^^^c=x:=⟨_,rfl⟩;rw[ex]at hx hxl
    have EX:Hid (sN k i c=inv x):=by show sN k i c=inv x;unfold sN;rw[au Jd,ex,dB ag]
    clear ex
    go_wp2_with(first|(go_at_call 63;refine(aa3 _ ag _).mono ?_;rintro e w' ⟨rfl,sH⟩;obtain rfl:=sH.symm)|(at_builtin;refine di _ rfl _ _ 24 rfl w.heap.size 5 i0 (.int .u8 0) 1 1 underlying24 zo xY wW vV rfl aB _ _ _ rfl (vO.alloc _) ⟨wr.heap.size,0,none⟩ 1 1 [.int .u8 (inv x:Nat)] rfl rfl (cell_one_new _ _ _) (JG _) bT ag aJ ?_;intro v' w1 tZ qA _))
    have vH:=QE (f:=sN k i) tZ EX.out;have rq:=IA A_ vO qA;clear tZ qA;go_wp2
    go_roundw
    case rel=>exact⟨c+1,ag,aV,vH,rq⟩
    case measure=>simp[intOf];omega
  .have e:c=k:=ag;subst e;go_wp2;go_ret;exact⟨_,rfl,vO,A_⟩
theorem aep{P:aP}{o:Oper}{a:Act}{w:ah}{K:Act->ah->Prop}{Q:Exit->Act->ah->Prop}{t:aG}{x:Operand}{N:Nat}{v:ai}(ho:o.op=.load t x)(hx:a.eval x=.pointer (some ⟨N,0,none⟩))(hl:(loadVar t ⟨N,0,none⟩).run P w=.ok v w)(h:K (a.put o.dst v) w):o.wp P a w K Q:=by unfold Oper.wp;rw[QQ ho hx hl];exact h
theorem PD{w:ah}{N:Nat}{c c':aH}(h:w.heap[N]?=some (.cells c 197))(hc:c.size=256)(V3:c'.size=256)(h1:∀v∈c',v.oneCell'=true):
  (storeCells ⟨N,0,none⟩ c'.toList).run prog w=.ok () (w.setRow N c'):=by
 have:=run_storeCells_from (P:=prog) N _ c'.toList 0 c w h aJ (λv hv=>h1 v (by simpa using hv));rw[this]
 congr 2
structure PT(w:ah)(f m:Nat)(w':ah):Prop where
 h2:w'.heap[w.heap.size]?=some (.cells Tryz.zeroCells197 197)
 h3:w'.heap[w.heap.size+1]?=some (.cells (zQ f m) 197)
 size:w'.heap.size=w.heap.size+2
 below:Below w.heap.size w w'
theorem PT.start(w:ah)(f:Nat):PT w f 1 ((w.alloc (.cells Tryz.zeroCells197 197)).alloc (.cells Tryz.zeroCells197 197)):=by
 have e:zQ f 1=Tryz.zeroCells197:=by
  rw[DN f,<-Oq f 0];apply nO;intro i;rw[pO];by_cases h:0=i
  .subst h;rw[ax rfl,ax (by simp[zQ]),BZ f 0 0 ag,zero_mul];rfl
  .rw[au h]
 refine⟨?_,?_,aA,((aO _ _).alloc (ay _) _).alloc aA _⟩
 .show((w.heap.push _).push _)[w.heap.size]?=_;rw[jo,au (by rw[Array.size_push];omega),jo,ax rfl]
 .show((w.heap.push _).push _)[w.heap.size+1]?=_;rw[jo,ax aA,e]
theorem PT.set{w w':ah}{f m:Nat}(h:PT w f m w'):PT w f (m+1) (w'.setCell ⟨w.heap.size+1,m,none⟩ (.int .u8 ((mul m f:Nat):Int))):=
 ⟨(lL w' ⟨w.heap.size+1,m,none⟩ w.heap.size _ avh).trans h.h2,by rw[heap_set _ h.h3,Oq],au6,h.below.setCell avi _⟩
theorem PG(f:Nat)(hf:f<256)(w:ah):
  Calls prog 124 #[.int .u8 (f:Int)] w λe w'=>e=.returned (.agg (zQ f 256))/\Below w.heap.size w w':=by
 have h0:=PT.start w f;generalize hz:Tryz.zeroCells197=Z at h0;go_enter func124,ntmps124;go_wp2;generalize(w.alloc (Obj.cells Z 197)).alloc (Obj.cells Z 197)=w0 at h0⊢;subst hz
 go_loopw [0,4] (λvf vb wr=>∃k b fa:Nat,k<=8/\aeL k b/\(k<8->fa=mul b f)/\fa<256/\vf=.int .u8 (fa:Int)/\vb=.int .i64 (b:Int)/\PT w f b wr) (λ_ b _=>512-(intOf b).toNat)
 case atStart=>exact⟨0,1,f,ag,rfl,λ_=>by rw[mul_comm ag hf,mul_one hf],hf,rfl,rfl,h0⟩
 case round=>
  clear h0;obtain⟨k,b,fa,hk,Jg,hfa,hfl,rfl,rfl,hT⟩:=hrel
  have hk8:b<=256:=by exact ayG
  have tV:1<=b:=awt;by_cases qB:b<256
  .have hk7:k<8:=by
    rcases bK k 8 with h|h
    .exact h
    .obtain rfl:k=8:=ag;have:b=256:=Jg;omega
   obtain rfl:=hfa hk7;clear hfa;have xZ:(b:Int)<256:=ag;go_wp2
   go_loopw [11] (λvj wr=>∃j:Nat,j<=b/\vj=.int .i64 (j:Int)/\PT w f (b+j) wr) (λj _=>b-(intOf j).toNat)
   case atStart=>exact⟨0,ag,rfl,hT⟩
   case round=>
    clear hT;obtain⟨j,hj,rfl,hT⟩:=hrel;by_cases hjb:j<b
    .have aue:(j:Int)<(b:Int):=ag
     have hbj:b+j<256:=by have:∀k:Fin 8,2^k.val*2<=256:=aB;have:=this ⟨k,hk7⟩;have e:b=2^k:=Jg;simp only at this;omega
     have ev:mul (b+j) f=mul j f^^^mul b f:=by have e:b=2^k:=Jg;rw[e];exact pow_add ⟨k,hk7⟩ j f (by rw[<-e];exact hjb)
     have c1:wr.cell? ⟨w.heap.size+1,j,none⟩=some (.int .u8 ((mul j f:Nat):Int)):=by rw[cell_of _ hT.h3,BZ _ _ _ ag,ax ag]
     have c2:wr.cell? ⟨w.heap.size+1,b+j,none⟩=some (.int .u8 0):=by rw[cell_of _ hT.h3,BZ _ _ _ hbj,au ag];rfl
     have f2:wr.frozen? ⟨w.heap.size+1,b+j,none⟩=false:=wo _ hT.h3 _;have hm1:mul j f<256:=mul_lt ag;have hx:bits .xor .u8 ((mul j f:Nat):Int) ((mul b f:Nat):Int)=((mul (b+j) f:Nat):Int):=by rw[ev];exact u8_xor_nat _ _ hm1 hfl
     have VY:=hT.set;generalize mul (b+j) f=q at VY hx;generalize mul j f=p at c1 hx hm1;clear ev;go_wp2
     go_roundw
     case rel=>exact⟨j+1,ag,aV,VY⟩
     case measure=>simp[intOf];omega
    .obtain rfl:j=b:=ag;have E5:¬((j:Int)<(j:Int)):=ag;have hkb:k+1<=8:=ag
     have htx:k+1<8->tx (mul j f)=mul (j+j) f:=λh=>by have e:j=2^k:=Jg;have:=ahU ⟨k,ag⟩ ⟨f,hf⟩;rw[e,show 2^k+2^k=2^(k+1)by omega];exact this
     have BJ:aeL (k+1) (j+j):=by have e:j=2^k:=Jg;show j+j=2^(k+1);omega
     have TQ:=MB hfl;have Ba:=Ug (mul j f) hfl;generalize mul j f=fa at*
     go_wp2_with(first|(go_at_call 137;(with_reducible refine(Ba _).mono ?_);rintro e w' ⟨rfl,sH⟩;obtain rfl:=sH.symm))
     go_roundw
     case rel=>exact⟨k+1,j+j,tx fa,hkb,BJ,htx,TQ,rfl,aV,hT⟩
     case measure=>simp[intOf];omega
  .have e:b=256:=ag;subst e;have hl:=Jn hT.h3 (uP f 256);have hs:=PD hT.h2 avE (uP f 256) (J8 f 256);have QK:=Ov (zQ f 256) hT.h2;have rq:Below w.heap.size w (wr.setRow w.heap.size (zQ f 256)):=⟨hT.below.os,hT.below.tape,hT.below.output,by rw[xu];exact hT.below.size,λk hk=>(ui wr _ ag).trans (hT.below.block k hk)⟩;have hsz:=uP f 256;generalize hTT:zQ f 256=T at*;go_wp2;refine aep rfl rfl hl ?_
   apply_assumption
   go_wp2;refine dS (auC (p:=2) rfl _ _ w.heap.size 197 _ (0,0) _ aF QK underlying197 rfl (by rw[hsz];exact ali)) rfl ?_;exact⟨by rw[hTT],rq⟩

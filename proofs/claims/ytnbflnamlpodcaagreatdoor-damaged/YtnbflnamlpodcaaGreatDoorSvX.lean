import Derived.Test.YtnbflnamlpodcaaGreatDoorGjB
set_option maxHeartbeats 2000000
set_option maxRecDepth 100000
namespace Go.Proofs.Y
open Go.Proofs.Tryz
open Go.Conc Go.RowKit Go.Gh
open Go.ConcR (Payload)
def tV(xs:List Nat):Array Value:=(xs.map λx=>(Value.int .u8 ((x:Nat):Int))).toArray
theorem yt(xs:List Nat)(i:Nat):(tV xs)[i]?=(xs[i]?).map λx=>Value.int .u8 ((x:Nat):Int):=by simp[tV]
theorem Ua(xs:List Nat)(i x:Nat):(tV xs).setIfInBounds i (.int .u8 ((x:Nat):Int))=tV (xs.set i x):=by simp[tV,List.map_set]
def AU(f:Nat):List Nat->List Nat->List Nat
 |x::xs,y::ys=>(x^^^mul y f)::AU f xs ys
 |xs,_=>xs
theorem ach(f:Nat)(xs:List Nat):AU f xs []=xs:=by cases xs<;>rfl
theorem Rx(f:Nat):∀xs ys:List Nat,(AU f xs ys).length=xs.length
 |[],_=>by simp[AU]
 |_::_,[]=>by simp[AU]
 |x::xs,y::ys=>by simp[AU,Rx f xs ys]
theorem Yl:∀xs ys:List Nat,AU 0 xs ys=xs
 |[],_=>rfl
 |_::_,[]=>rfl
 |x::xs,y::ys=>by simp[AU,Yl xs ys,mul_zero]
theorem aci(f:Nat):∀(xs ys:List Nat)(i:Nat),ys.length<=i->(AU f xs ys)[i]?=xs[i]?
 |[],_,_,_=>by simp[AU]
 |_::_,[],_,_=>by simp[AU]
 |x::xs,y::ys,0,h=>by simp at h
 |x::xs,y::ys,i+1,h=>by simp[AU,aci f xs ys i kZ]
theorem Ym(f:Nat):∀(xs ys:List Nat)(m x y:Nat),xs[m]?=some x->ys[m]?=some y->(AU f xs (ys.take m)).set m (x^^^mul y f)=AU f xs (ys.take (m+1))
 |[],_,_,_,_,h,_=>by simp at h
 |_::_,[],_,_,_,_,h=>by simp at h
 |a::xs,b::ys,0,x,y,h1,h2=>by simp at h1 h2;subst h1;subst h2;simp[AU,ach]
 |a::xs,b::ys,m+1,x,y,h1,h2=>by simp[AU];simpa using Ym f xs ys m x y gQ jc
theorem afo(f:Nat)(hf:f<256):∀xs ys:List Nat,(∀x∈xs,x<256)->(∀y∈ys,y<256)->∀z∈AU f xs ys,z<256
 |[],_,_,_=>by simp[AU]
 |_::_,[],h,_=>by simpa[AU]using h
 |x::xs,y::ys,h1,h2=>by
  intro z hz;simp only[AU,dA]at hz;rcases hz with rfl|hz
  .exact CY (h1 x ai) (mul_lt (h2 y ai))
  .exact afo f hf xs ys (λa ha=>h1 a (by simp[ha])) (λa ha=>h2 a (by simp[ha])) z hz
theorem apg{o:Oper}{a:Act}{X:Act->World->Prop}{r:Result Next}(h:∀K:Act->World->Prop,(∀a' w',X a' w'->K a' w')->uponK o a K r):uponK o a X r:=h X λ_ _ x=>x
section
variable [Payload][qV]{main:Bool}{Wg C n B:Nat}{Cl:Nat->Prop}
structure AF(Wg C n B:Nat)(Cl:Nat->Prop)(w0:World)(bl:Nat)(cur:List Nat)(bo oo:Nat)(ys:List Nat)(w:World):Prop where
 bs:Bs C B w
 ex:Ex Wg C n B Cl (· =bl) w0 w
 ml:qO w bl
 neC:bl≠C
 hB:B<=bl
 rdo:RY Wg C B w bo
 lto:bo<w.heap.size
 neo:bo≠bl
 hx:w.heap[bl]?=some (.cells (tV cur) 5)
 hy:∀i y,ys[i]?=some y->w.cell? ⟨bo,oo+i,none⟩=some (.int .u8 ((y:Nat):Int))
section
variable {w0 w w₁:World}{bl bo oo:Nat}{cur ys:List Nat}
theorem AF.call(h:AF Wg C n B Cl w0 bl cur bo oo ys w)(hb:Bs C B w₁)(r:Ex Wg C n B Cl (λ_=>False) w w₁):AF Wg C n B Cl w0 bl cur bo oo ys w₁:=
 ⟨hb,h.ex.trans (r.weaken λ_=>False.elim),r.own _ h.ml,h.neC,h.hB,r.rdb h.rdo,aK h.lto r.size,h.neo,(r.mine _ h.ml id).trans h.hx,λi y e=>by rw[<-h.hy i y e];simp only[World.cell?,r.stands h.rdo id]⟩
theorem AF.rely(h:AF Wg C n B Cl w0 bl cur bo oo ys w)(r:Ro Wg C n B Cl w w₁):AF Wg C n B Cl w0 bl cur bo oo ys w₁:=h.call (h.bs.rely r) r.ex
theorem AF.set(h:AF Wg C n B Cl w0 bl cur bo oo ys w)(i x:Nat):AF Wg C n B Cl w0 bl (cur.set i x) bo oo ys (w.setCell ⟨bl,i,none⟩ (.int .u8 ((x:Nat):Int))):=
 ⟨h.bs.set _ _,h.ex.trans (Ex.set h.neC rfl (λhh=>by have:=h.hB;dsimp only at hh;omega)),su (w:=w) (w':=w.setCell _ _) rfl dI h.ml,h.neC,h.hB,
  h.rdo.imp (λx=>su (w:=w) (w':=w.setCell _ _) rfl dI x) id,by rw[tu];exact h.lto,h.neo,by rw[heap_set w h.hx,Ua],λi y e=>by
  rw[nD _ _ _ _ (by intro e;injection e with e1;exact h.neo e1.symm)];exact h.hy i y e⟩
end
structure AG(Wg C n B:Nat)(Cl:Nat->Prop)(w0:World)(bl:Nat)(cur:List Nat)(bo oo:Nat)(ys:List Nat)(N6:Nat)(T:Array Value)(w:World):Prop where
 af:AF Wg C n B Cl w0 bl cur bo oo ys w
 m6:qO w N6
 n6:N6≠bl
 h6:w.heap[N6]?=some (.cells T 209)
section
variable {w0 w w₁:World}{bl bo oo N6:Nat}{T:Array Value}{cur ys:List Nat}
theorem AG.rely(h:AG Wg C n B Cl w0 bl cur bo oo ys N6 T w)(r:Ro Wg C n B Cl w w₁):AG Wg C n B Cl w0 bl cur bo oo ys N6 T w₁:=⟨h.af.rely r,(r.yj _).2 h.m6,h.n6,(r.mine _ h.m6).trans h.h6⟩
theorem AG.draw(h:AG Wg C n B Cl w0 bl cur bo oo ys N6 T w)(d:Nat):AG Wg C n B Cl w0 bl cur bo oo ys N6 T {w with drawn:=d}:=
 ⟨⟨⟨h.af.bs.tg,h.af.bs.hC,h.af.bs.hB,h.af.bs.ow⟩,⟨h.af.ex.size,h.af.ex.tape,h.af.ex.os,h.af.ex.tag,h.af.ex.own,h.af.ex.mine,h.af.ex.low,h.af.ex.cell,h.af.ex.pay⟩,h.af.ml,h.af.neC,h.af.hB,h.af.rdo,h.af.lto,h.af.neo,h.af.hx,h.af.hy⟩,h.m6,h.n6,h.h6⟩
theorem AG.tab{f:Nat}(hT:zH f 256=T)(h:AG Wg C n B Cl w0 bl cur bo oo ys N6 T w){x:Nat}(hx:x<256):w.cell? ⟨N6,x,none⟩=some (.int .u8 ((mul x f:Nat):Int)):=by rw[cell_of _ h.h6,<-hT,BU _ _ _ hx,aj hx]
theorem AG.at(h:AG Wg C n B Cl w0 bl cur bo oo ys N6 T w){i x:Nat}(hx:cur[i]?=some x):w.cell? ⟨bl,i,none⟩=some (.int .u8 ((x:Nat):Int)):=by rw[cell_of _ h.af.hx,yt,hx];rfl
theorem AG.set(h:AG Wg C n B Cl w0 bl cur bo oo ys N6 T w)(i x:Nat):AG Wg C n B Cl w0 bl (cur.set i x) bo oo ys N6 T (w.setCell ⟨bl,i,none⟩ (.int .u8 ((x:Nat):Int))):=
 ⟨h.af.set i x,su (w:=w) (w':=w.setCell _ _) rfl dI h.m6,h.n6,(bF _ _ _ _ h.n6).trans h.h6⟩
theorem AF.alloc(h:AF Wg C n B Cl w0 bl cur bo oo ys w)(T:Array Value):AG Wg C n B Cl w0 bl cur bo oo ys w.heap.size T (w.alloc (.cells T 209)):=
 ⟨h.call (h.bs.alloc _) (Ex.alloc h.bs.hC h.bs.hB (λ_ x=>h.bs.lt x) _),zG (w:=w) (w':=w.alloc _) rfl h.bs.tg (ak _) gU,by have:=h.bs.lt h.ml;omega,Ef w _⟩
theorem AG.row{T':Array Value}(h:AG Wg C n B Cl w0 bl cur bo oo ys N6 T' w)(asr:bo≠N6)(h0:Bs C B w0)(hN:w0.heap.size<=N6)(T:Array Value):AG Wg C n B Cl w0 bl cur bo oo ys N6 T (w.setRow N6 T):=
 ⟨⟨h.af.bs.row _ _,acQ h.af.ex h0 hN _,su (w:=w) (w':=w.setRow _ _) rfl ig h.af.ml,h.af.neC,h.af.hB,h.af.rdo.imp (λx=>su (w:=w) (w':=w.setRow _ _) rfl ig x) id,
   by rw[xm];exact h.af.lto,h.af.neo,(uf w _ (di h.n6)).trans h.af.hx,λi y e=>by rw[Aj w _ (by exact asr)];exact h.af.hy i y e⟩,
   su (w:=w) (w':=w.setRow _ _) rfl ig h.m6,h.n6,NU _ h.h6⟩
end
def Dl(ys:List Nat)(k:Nat):Prop:=ys.length=k
def AI(Wg C n B:Nat)(Cl:Nat->Prop)(w0:World)(bl nl cl:Nat)(xs:List Nat)(bs:Option Addr)(bo oo co:Nat)(ys:List Nat)(N6:Nat)(T:Array Value)(f k:Nat)(a:Act)(w:World):Prop:=
 ∃(m:Nat)(v3 v4 v5 v7 v8 v9 v10 v11 v12 SN SQ Pn Po v20 v21 v22 Tv v24 Tz v26 ZU v28 v29:Value),m<=k/\AG Wg C n B Cl w0 bl (AU f xs (ys.take m)) bo oo ys N6 T w/\a={tmps:=#[.slice (some ⟨bl,0,none⟩) nl cl,.int .u8 (f:Int),.slice bs k co,v3,v4,v5,.pointer (some ⟨N6,0,none⟩),v7,v8,v9,v10,v11,v12,.slice bs k co,.int .i64 ((k:Nat):Int),.int .i64 ((m:Nat):Int),SN,SQ,Pn,Po,v20,v21,v22,Tv,v24,Tz,v26,ZU,v28,v29],defers:=[]}
def muA(k:Nat)(a:Act)(_:World):Nat:=match a.tmps.getD 15 undef with| .int _ j=>k-j.toNat|_=>0
theorem aei(k:Nat):∃q,∀(w:World)(bs:Option Addr)(bl nl cl bo oo co f:Nat)(xs ys:List Nat),(0<k->bs=some ⟨bo,oo,none⟩)->f<256->(∀x∈xs,x<256)->(∀y∈ys,y<256)->Dl xs nl->k<=nl->Dl ys k->nl<=maxLen->AF Wg C n B Cl w bl xs bo oo ys w->
  CallsC prog main (Ro Wg C n B Cl) (Dg Wg C n B Cl) 91 #[.slice (some ⟨bl,0,none⟩) nl cl,.int .u8 (f:Int),.slice bs k co] q w λv w'=>v=.tuple #[]/\AF Wg C n B Cl w bl (AU f xs ys) bo oo ys w':=by
 obtain⟨kp,hp⟩:=acR (main:=main) (Wg:=Wg) (C:=C) (n:=n) (B:=B) (Cl:=Cl);co_apply Exists.intro;intro w bs bl nl cl bo oo co f xs ys hbs hf hxs hys GH hle hk hmax hF;have Iu:=hF.bs;co_apply callsC_of_wpC func91 ax rfl;simp only[ntmps91,dY,bQ,dB,Nat.reduceAdd,Nat.reduceSub,cu,b_,bU,bY,bg,aV];co_apply aY p_;co_apply aY p_;co_reg p_;co_op AF.rely hF (co_quiet p_);co_op AF.rely hF (co_quiet p_);co_apply aX p_;co_then
 co_split p_ ((f:Int)==0)
 .intro h0
  obtain rfl:f=0:=by have:(f:Int)=0:=by simpa using h0
                     omega
  co_apply wpC_ret p_;exact⟨rfl,_,resultsC_none ax _,rfl,by rw[Yl];exact hF⟩
 .intro h0;clear h0
  co_ctl p_
  co_then;co_apply aY p_;co_reg p_;co_op AF.rely hF (co_quiet p_);co_apply acM p_ rfl ax rfl
  .walk_nrm;exact hp _ _ hf hF.bs
  rintro v w' ⟨rfl,Ir,hex⟩;replace hF:=hF.call Ir hex;clear Ir hex;obtain⟨T,hT,hTs,hT1⟩:∃T,zH f 256=T/\T.size=256/\∀v∈T,v.oneCell'=true:=⟨_,rfl,uF f _,I7 f _⟩;simp only[hT];walk_nrm
  co_opw AF.rely hF (skip) (rw[listed_nil auB];exact y_ hF.bs.hC _ rfl)
  have hlo:=hF.ex.size;have qE:=hF.lto;replace hF:=hF.alloc Tryz.zeroCells209;generalize hN6:Array.size (World.heap _)=N6 at hF hlo qE⊢;clear hN6;co_apply opsC_cons rfl ax;intro w₁ r;replace hF:=hF.rely r;clear r;have hz:Tryz.zeroCells209.size=256:=au4;have sJ:=NT (c':=T) hF.h6 hz hTs hT1;rw[NS (v:=.agg T) rfl rfl rfl sJ];simp only[uponK_skip];have ass:N6≠C:=by have:=Iu.hC;omega
  refine⟨?_,?_⟩
  .unfold listed;rw[QG (v:=.agg T) rfl rfl rfl];exact ahD hF.m6 ass (hF.af.bs.lt hF.m6) (λe he=>QH (c':=T) hF.h6 hz hTs hT1 e (mem_seen he))
  clear sJ;replace hF:=hF.row ae Iu hlo T;walk_nrm;co_apply aX p_;co_then;co_apply aY p_;co_reg p_;co_op AG.rely hF (co_quiet p_);co_op AG.rely hF (co_quiet p_);co_op AG.rely hF (co_quiet p_);co_apply aX p_;co_then;co_apply jX p_;co_apply jG p_ (AI Wg C n B Cl w bl nl cl xs bs bo oo co ys N6 T f k) (muA k) _ k
  .exact⟨0,_,_,_,_,_,_,_,_,_,_,_,_,_,_,_,_,_,_,_,_,_,_,_,fC _,by rw[kG,ach];exact hF,rfl⟩
  .simp[muA]
  rintro a w' ⟨m,v3,v4,v5,v7,v8,v9,v10,v11,v12,SN,SQ,Pn,Po,v20,v21,v22,Tv,v24,Tz,v26,ZU,v28,v29,hm,hF,rfl⟩;co_apply aY p_;co_reg p_;co_op AG.rely hF (co_quiet p_);co_apply aX p_;co_then;co_apply aY p_
  co_split p_ (decide ((m:Int)<(k:Int)))
  .intro hml;have ast:m<k:=by have:=gp hml;omega
   clear hml;obtain rfl:bs=some ⟨bo,oo,none⟩:=hbs ae;obtain⟨y,hy⟩:∃y,ys[m]?=some y:=⟨ys[m]'(by rw[show ys.length=k from hk];exact ast),ai⟩;obtain⟨x,hx⟩:∃x,xs[m]?=some x:=⟨xs[m]'(by rw[show xs.length=nl from GH];omega),ai⟩;have aku:y<256:=hys y (iR hy);have akZ:x<256:=hxs x (iR hx);have hcx:(AU f xs (ys.take m))[m]?=some x:=by rw[aci f xs _ m az];exact hx
   have hmI:(m:Int)<(k:Int):=ae;have hmN:(m:Int)<(nl:Int):=ae;have hyI:(y:Int)<256:=ae;have hmul:mul y f<256:=mul_lt aku
   co_ctl p_
   co_then;co_apply aY p_;co_apply jX p_;co_apply aY p_;co_reg p_;co_op AG.rely hF (co_quiet p_)
   co_opw AG.rely hF (skip) (co_still p_)
   co_opw AG.rely hF (have hc:=hF.af.hy m y hy) (refine tK hF.af.rdo hF.af.lto ?_;co_evs (exact⟨_,rfl,rfl⟩))
   clear hc;co_op AG.rely hF (co_quiet p_);co_op AG.rely hF (co_quiet p_);co_apply aX p_;co_then;co_apply Ak (nf:=0) (S:=AG Wg C n B Cl w bl (AU f xs (ys.take m)) bo oo ys N6 T) (lst:=9) p_ aeA (by first|kernel_rfl|rfl);intro w₁ r;replace hF:=(hF.rely r).draw (w₁.drawn+1);clear r;simp only[dY,bQ,dB,Nat.reduceAdd,aT];have hix:∀(w:World)(es:Array Event),(Instr.indexAt 209 (.pointer (some ⟨N6,0,none⟩)) (.int .u8 (y:Int))).events prog w es=es:=λw es=>events_indexAt_array _ _ _ _ _ _ underlying209 ⟨ae,ae⟩
   co_applyP sD p_ (λ_ _ h r=>AG.rely h r) (λ_ _ _ h r=>ik p_ h r) (i:=0) rfl ag ag ag ag ag (.inl ⟨ax,λ_ hw=>⟨run_eq_of ?asu,?aq7⟩⟩) hF ?as8
   case asu=>
    exact awz
   case aq7=>
    skip
    co_quiet p_
   try walk_nrm
   co_applyP sD p_ (λ_ _ h r=>AG.rely h r) (λ_ _ _ h r=>ik p_ h r) (i:=1) rfl ag ag ag ag ag (.inl ⟨ax,λ_ hw=>⟨run_eq_of ?asv,?aq8⟩⟩) hF ?as9
   case asv=>
    exact awz
   case aq8=>
    skip
    co_quiet p_
   try walk_nrm
   co_applyP sD p_ (λ_ _ h r=>AG.rely h r) (λ_ _ _ h r=>ik p_ h r) (i:=2) rfl ag ag ag ag ag (.inl ⟨ax,λ_ hw=>⟨run_eq_of ?asw,?aq9⟩⟩) hF ?ata
   case asw=>
    exact awz
   case aq9=>
    skip
    co_still p_
   try walk_nrm
   co_applyP sD p_ (λ_ _ h r=>AG.rely h r) (λ_ _ _ h r=>ik p_ h r) (i:=3) rfl ag ag ag ag ag (.inl ⟨ax,λ_ hw=>⟨run_eq_of ?asx,?aq_⟩⟩) hF ?atb
   case asx=>
    intro K hK;have hc:=hw.at hcx;go_simp;exact hK
   case aq_=>
    have hc:=hw.at hcx;refine tK (.inl hw.af.ml) (hw.af.bs.lt hw.af.ml) ?_;co_evs (exact⟨_,rfl,rfl⟩)
   try walk_nrm
   co_applyP sD p_ (λ_ _ h r=>AG.rely h r) (λ_ _ _ h r=>ik p_ h r) (i:=4) rfl ag ag ag ag ag (.inl ⟨ax,λ_ hw=>⟨run_eq_of ?asy,?ara⟩⟩) hF ?atc
   case asy=>
    exact awz
   case ara=>
    skip
    co_quiet p_
   try walk_nrm
   co_applyP sD p_ (λ_ _ h r=>AG.rely h r) (λ_ _ _ h r=>ik p_ h r) (i:=5) rfl ag ag ag ag ag (.inl ⟨ax,λ_ hw=>⟨run_eq_of ?asz,?arb⟩⟩) hF ?atd
   case asz=>
    exact awz
   case arb=>
    skip
    co_still p_
   try walk_nrm
   co_applyP sD p_ (λ_ _ h r=>AG.rely h r) (λ_ _ _ h r=>ik p_ h r) (i:=6) rfl ag ag ag ag ag (.inl ⟨ax,λ_ hw=>⟨run_eq_of ?asA,?arc⟩⟩) hF ?ate
   case asA=>
    intro K hK;have hc:=hw.tab hT aku;go_simp;exact hK
   case arc=>
    have hc:=hw.tab hT aku;refine tK (.inl hw.m6) (hw.af.bs.lt hw.m6) ?_;co_evs (exact⟨_,rfl,rfl⟩)
   try walk_nrm
   co_applyP sD p_ (λ_ _ h r=>AG.rely h r) (λ_ _ _ h r=>ik p_ h r) (i:=7) rfl ag ag ag ag ag (.inl ⟨ax,λ_ hw=>⟨run_eq_of ?asB,?ard⟩⟩) hF ?atf
   case asB=>
    exact awz
   case ard=>
    skip
    co_quiet p_
   try walk_nrm
   co_applyP sD p_ (λ_ _ h r=>AG.rely h r) (λ_ _ _ h r=>ik p_ h r) (i:=8) rfl ag ag ag ag ag (.inl ⟨ax,λ_ hw=>⟨run_eq_of ?asC,?arf⟩⟩) hF ?atg
   case asC=>
    exact awz
   case arf=>
    skip
    co_still p_
   try walk_nrm
   co_applyP F5 (i:=9) ag
   refine⟨_,rfl,.inl ⟨ax,?_⟩⟩;intro w₂ r;replace hF:=hF.rely r;clear r;refine apg ?_;intro K hK;have hc:=hF.at hcx;have hz:=vY _ hF.af.hx m;go_simp
   try(unfold stored;go_simp)
   refine hK _ _ ⟨?_,λh=>absurd rfl h,?_⟩
   .refine PH hF.af.ml hF.af.neC (hF.af.bs.lt hF.af.ml) ?_
    co_evs (exact⟨_,_,rfl,rfl⟩)
   clear hK K hc hz;replace hF:=hF.set m (x^^^mul y f);rw[Ym f xs ys m x y hx hy,<-u8_xor_nat _ _ akZ hmul]at hF;refine JZ ag ?_ _;co_then;co_reg p_;co_op AG.rely hF (co_quiet p_);co_op AG.rely hF (co_quiet p_);co_apply aX p_;co_then
   have BB:IntKind.i64.wrap ((m:Int)+1)=((m+1:Nat):Int):=by
    have:nl<=9223372036854775807:=by simpa[maxLen]using hmax
    rw[dZ];omega
   simp only[BB];refine⟨⟨m+1,_,_,_,_,_,_,_,_,_,_,_,_,_,_,_,_,_,_,_,_,_,_,_,ae,hF,rfl⟩,?_⟩;simp[muA];omega
  .intro hml;have hmk:m=k:=by have:=iL hml;omega
   have xe:ys.take m=ys:=iF (by rw[show ys.length=k from hk];omega)
   co_ctl p_
   co_then;exact⟨rfl,_,resultsC_none ax _,rfl,by rw[xe]at hF;exact hF.af⟩
end
structure Ub where
 bs:Option Addr
 bo:Nat
 oo:Nat
 co:Nat
 ys:List Nat
def comb:List (Nat×List Nat)->List Nat->List Nat
 |[],cur=>cur
 |z::zs,cur=>comb zs (AU z.1 cur z.2)
theorem BZ:∀(zs:List (Nat×List Nat))(cur:List Nat),(comb zs cur).length=cur.length
 |[],_=>rfl
 |z::zs,cur=>by rw[comb,BZ zs,Rx]
theorem Qy:∀(zs:List (Nat×List Nat))(cur:List Nat)(z:Nat×List Nat),comb (zs++[z]) cur=AU z.1 (comb zs cur) z.2
 |[],_,_=>rfl
 |y::zs,cur,z=>by rw[aV,comb,Qy zs,comb]
theorem afp:∀(zs:List (Nat×List Nat))(cur:List Nat),(∀z∈zs,z.1<256/\∀y∈z.2,y<256)->(∀x∈cur,x<256)->∀x∈comb zs cur,x<256
 |[],_,_,h=>h
 |z::zs,cur,h1,h2=>afp zs _ (λy hy=>h1 y (by simp[hy])) (afo z.1 (h1 z ai).1 cur z.2 h2 (h1 z ai).2)
theorem ag_(L:Nat):madeCells #[.int .u8 0] L=tV (List.replicate L 0):=by
 apply kX;intro i;rw[yt];by_cases h:i<L
 .simp[madeCells,h,Nat.mod_one]
 .simp[madeCells,h]
section
variable [Payload][qV]{main:Bool}{Wg C n B:Nat}{Cl:Nat->Prop}
structure CIn(Wg C B:Nat)(bw ow bc oc L:Nat)(ws:List Nat)(cs:List Ub)(w:World):Prop where
 rw:RY Wg C B w bw
 lw:bw<w.heap.size
 rc:RY Wg C B w bc
 lc:bc<w.heap.size
 hw:∀j x,ws[j]?=some x->w.cell? ⟨bw,ow+j,none⟩=some (.int .u8 ((x:Nat):Int))
 hc:∀j c,cs[j]?=some c->w.cell? ⟨bc,oc+j,none⟩=some (.slice c.bs L c.co)
 xP:∀c∈cs,RY Wg C B w c.bo/\c.bo<w.heap.size/\(0<L->c.bs=some ⟨c.bo,c.oo,none⟩)/\∀i y,c.ys[i]?=some y->w.cell? ⟨c.bo,c.oo+i,none⟩=some (.int .u8 ((y:Nat):Int))
theorem CIn.ex{w w₁:World}{bw ow bc oc L:Nat}{ws:List Nat}{cs:List Ub}(h:CIn Wg C B bw ow bc oc L ws cs w)(r:Ex Wg C n B Cl (λ_=>False) w w₁):CIn Wg C B bw ow bc oc L ws cs w₁:=by
 have st:∀{b:Nat},RY Wg C B w b->∀o,w₁.cell? ⟨b,o,none⟩=w.cell? ⟨b,o,none⟩:=λhb o=>auy
 exact⟨r.rdb h.rw,aK h.lw r.size,r.rdb h.rc,aK h.lc r.size,λj x e=>(st h.rw _).trans (h.hw j x e),λj c e=>(st h.rc _).trans (h.hc j c e),
  λc hc=>let⟨h1,h2,h3,h4⟩:=h.xP c hc;⟨r.rdb h1,aK h2 r.size,h3,λi y e=>(st h1 _).trans (h4 i y e)⟩⟩
structure CF(Wg C n B:Nat)(Cl:Nat->Prop)(w0 w:World):Prop where
 bs:Bs C B w
 ex:Ex Wg C n B Cl (λ_=>False) w0 w
omit [qV]in
theorem CF.rely{w0 w w₁:World}(h:CF Wg C n B Cl w0 w)(r:Ro Wg C n B Cl w w₁):CF Wg C n B Cl w0 w₁:=⟨h.bs.rely r,h.ex.rely r⟩
structure CG(Wg C n B:Nat)(Cl:Nat->Prop)(w0:World)(N:Nat)(cur:List Nat)(w:World):Prop where
 bs:Bs C B w
 ex:Ex Wg C n B Cl (λ_=>False) w0 w
 lo:w0.heap.size<=N
 mn:qO w N
 hx:w.heap[N]?=some (.cells (tV cur) 5)
omit [qV]in
theorem CG.rely{w0 w w₁:World}{N:Nat}{cur:List Nat}(h:CG Wg C n B Cl w0 N cur w)(r:Ro Wg C n B Cl w w₁):CG Wg C n B Cl w0 N cur w₁:=⟨h.bs.rely r,h.ex.rely r,h.lo,(r.yj _).2 h.mn,(r.mine _ h.mn).trans h.hx⟩
omit [qV]in
theorem CF.alloc{w0 w:World}(h:CF Wg C n B Cl w0 w)(L:Nat):CG Wg C n B Cl w0 w.heap.size (List.replicate L 0) (w.alloc (.cells (madeCells #[.int .u8 0] L) 5)):=
 ⟨h.bs.alloc _,TZ h.ex h.bs _,h.ex.size,zG (w:=w) (w':=w.alloc _) rfl h.bs.tg (ak _) gU,by rw[Ef,ag_]⟩
omit [qV]in
theorem CG.back{w0 w w₁:World}(h0:Bs C B w0){N:Nat}{cur:List Nat}(h:CG Wg C n B Cl w0 N cur w)(r:Ex Wg C n B Cl (· =N) w w₁):Ex Wg C n B Cl (λ_=>False) w0 w₁:=
 ⟨aJ h.ex.size r.size,r.tape.trans h.ex.tape,r.os.trans h.ex.os,r.tag∘h.ex.tag,λb x=>r.own b (h.ex.own b x),λb x y=>(r.mine b (h.ex.own b x) (λe=>by have:=h0.lt x;have:=h.lo;omega)).trans (h.ex.mine b x y),
  λb x y z=>(r.low b x y z).trans (h.ex.low b x y z),λi x=>(r.cell i x).trans (h.ex.cell i x),r.pay∘h.ex.pay⟩
def EH(ws:List Nat)(cs:List Ub):List (Nat×List Nat):=ws.zip (cs.map (·.ys))
def CI(Wg C n B:Nat)(Cl:Nat->Prop)(w0:World)(bw ow cw bc oc cc L k N:Nat)(ws:List Nat)(cs:List Ub)(a:Act)(w:World):Prop:=
 ∃(j:Nat)(v2 v3 v4 v6 v7 v8 v9 v10 v11 v12 SN SQ Pn Po v20 v21 v22 Tv v24 Tz v26 ZU v28:Value),j<=k/\CG Wg C n B Cl w0 N (comb ((EH ws cs).take j) (List.replicate L 0)) w/\a={tmps:=#[.slice (some ⟨bw,ow,none⟩) k cw,.slice (some ⟨bc,oc,none⟩) k cc,v2,v3,v4,.slice (some ⟨N,0,none⟩) L L,v6,v7,v8,v9,v10,v11,v12,.slice (some ⟨bc,oc,none⟩) k cc,.int .i64 ((k:Nat):Int),.int .i64 ((j:Nat):Int),SN,SQ,Pn,Po,v20,v21,v22,Tv,v24,Tz,v26,ZU,v28],defers:=[]}
def muC(k:Nat)(a:Act)(_:World):Nat:=match a.tmps.getD 15 undef with| .int _ j=>k-j.toNat|_=>0
omit [Payload][qV]in
theorem Tc:(prog.info? 5).map (λi=>(i.zero,i.size,i.bytes))=some (some (.int .u8 0),1,1):=ag
theorem Xt(k L:Nat)(hk0:0<k)(hk:k<=128)(hL:L<=140737488355328):∃q,∀(w:World)(bw ow cw bc oc cc:Nat)(ws:List Nat)(cs:List Ub),Dl ws k->cs.length=k->(∀x∈ws,x<256)->(∀c∈cs,Dl c.ys L/\∀y∈c.ys,y<256)->Bs C B w->CIn Wg C B bw ow bc oc L ws cs w->
  CallsC prog main (Ro Wg C n B Cl) (Dg Wg C n B Cl) 51 #[.slice (some ⟨bw,ow,none⟩) k cw,.slice (some ⟨bc,oc,none⟩) k cc] q w λv w'=>∃N,v=.slice (some ⟨N,0,none⟩) L L/\CG Wg C n B Cl w N (comb (EH ws cs) (List.replicate L 0)) w':=by
 obtain⟨qa,ha⟩:=aei (main:=main) (Wg:=Wg) (C:=C) (n:=n) (B:=B) (Cl:=Cl) L;obtain⟨i0,hi,x_,w_,wH⟩:=bG Tc
 have hmk:∀w:World,(Instr.makeSlice 34 (.int .i64 (L:Int)) (.int .i64 (L:Int))).run prog w=.ok (.slice (some ⟨w.heap.size,0,none⟩) L L) (w.alloc (.cells (madeCells #[.int .u8 0] L) 5)):=λw=>by exact ax8
 have hme:∀(w:World)(es:Array Event),(Instr.makeSlice 34 (.int .i64 (L:Int)) (.int .i64 (L:Int))).events prog w es=es:=λw es=>
  events_make (P:=prog) w 34 5 i0 (.int .u8 0) underlying34 hi x_ .i64 .i64 (L:Int) (L:Int) ae ae fU ae auJ es
 clear hi x_ w_ wH;co_apply Exists.intro;intro w bw ow cw bc oc cc ws cs hlw hlc hws hcs hb O9;co_apply callsC_of_wpC func51 ax rfl;simp only[ntmps51,dY,bQ,dB,Nat.reduceAdd,Nat.reduceSub,cu,b_,bU,bY,bg,aV];have hF:CF Wg C n B Cl w w:=⟨hb,.refl w⟩;have hkI:(0:Int)<(k:Int):=ae;obtain⟨c0,hc0⟩:∃c,cs[0]?=some c:=⟨cs[0]' ae,ai⟩;co_apply aY p_;co_reg p_;co_op CF.rely hF (co_quiet p_);co_apply aX p_;co_then;co_apply aY p_;co_reg p_;co_op CF.rely hF (co_quiet p_)
 co_opw CF.rely hF (skip) (co_still p_)
 co_opw CF.rely hF (have hc:=(O9.ex hF.ex).hc 0 c0 hc0;simp only[eY]at hc) (refine tK (O9.ex hF.ex).rc (O9.ex hF.ex).lc ?_;co_evs (exact⟨_,rfl,rfl⟩))
 clear hc;co_op CF.rely hF (co_quiet p_)
 co_opw CF.rely hF (skip) (rw[listed_nil jT];exact y_ hF.bs.hC _ rfl)
 replace hF:=hF.alloc L;generalize hN:Array.size (World.heap _)=N at hF⊢;clear hN;co_op CG.rely hF (co_quiet p_);co_apply aX p_;co_then;co_apply aY p_;co_apply aY p_;co_reg p_;co_op CG.rely hF (co_quiet p_);co_op CG.rely hF (co_quiet p_);co_op CG.rely hF (co_quiet p_);co_apply aX p_;co_then;co_apply jX p_;co_apply jG p_ (CI Wg C n B Cl w bw ow cw bc oc cc L k N ws cs) (muC k) _ k
 .exact⟨0,_,_,_,_,_,_,_,_,_,_,_,_,_,_,_,_,_,_,_,_,_,_,_,fC _,hF,rfl⟩
 .simp[muC]
 rintro a w' ⟨j,v2,v3,v4,v6,v7,v8,v9,v10,v11,v12,SN,SQ,Pn,Po,v20,v21,v22,Tv,v24,Tz,v26,ZU,v28,hj,hF,rfl⟩;co_apply aY p_;co_reg p_;co_op CG.rely hF (co_quiet p_);co_apply aX p_;co_then;co_apply aY p_
 co_split p_ (decide ((j:Int)<(k:Int)))
 .intro Nz;have ahE:j<k:=au8;have hjI:(j:Int)<(k:Int):=ae;clear Nz;obtain⟨c,hcj⟩:∃c,cs[j]?=some c:=⟨cs[j]' ae,ai⟩;obtain⟨x,hxj⟩:∃x,ws[j]?=some x:=⟨ws[j]'(by rw[show ws.length=k from hlw];omega),ai⟩;have akZ:x<256:=hws x (iR hxj);have sF:=iR hcj;obtain⟨hly,hys⟩:=hcs c sF
  co_ctl p_
  co_then;co_apply aY p_;co_apply jX p_;co_apply aY p_;co_reg p_;co_op CG.rely hF (co_quiet p_)
  co_opw CG.rely hF (skip) (co_still p_)
  co_opw CG.rely hF (have hc:=(O9.ex hF.ex).hc j c hcj) (refine tK (O9.ex hF.ex).rc (O9.ex hF.ex).lc ?_;co_evs (exact⟨_,rfl,rfl⟩))
  clear hc;co_op CG.rely hF (co_quiet p_);co_op CG.rely hF (co_quiet p_);co_apply aX p_;co_then;co_reg p_;co_op CG.rely hF (co_quiet p_);co_op CG.rely hF (co_quiet p_);co_op CG.rely hF (co_quiet p_)
  co_opw CG.rely hF (skip) (co_still p_)
  co_opw CG.rely hF (have hc:=(O9.ex hF.ex).hw j x hxj) (refine tK (O9.ex hF.ex).rw (O9.ex hF.ex).lw ?_;co_evs (exact⟨_,rfl,rfl⟩))
  clear hc;co_op CG.rely hF (co_quiet p_);have xP:=(O9.ex hF.ex).xP c sF;have hN1:=hF.lo;have S_:=hb.hC;have hN3:=hb.hB;have hN4:=(O9.xP c sF).2.1
  have hAF:∀w1,CG Wg C n B Cl w N (comb ((EH ws cs).take j) (List.replicate L 0)) w1->AF Wg C n B Cl w1 N (comb ((EH ws cs).take j) (List.replicate L 0)) c.bo c.oo c.ys w1:=λw1 h1=>
   ⟨h1.bs,.refl _,h1.mn,ae,ae,((O9.ex h1.ex).xP c sF).1,((O9.ex h1.ex).xP c sF).2.1,ae,h1.hx,((O9.ex h1.ex).xP c sF).2.2.2⟩
  have arh:∀z∈(EH ws cs).take j,z.1<256/\∀y∈z.2,y<256:=by intro z hz;have hz:=avj hz;have h1:=List.of_mem_zip hz;refine⟨hws _ h1.1,?_⟩;obtain⟨c',hc',e⟩:=fA.1 h1.2;rw[<-e];exact(hcs c' hc').2
  co_apply opsC_call p_ rfl ax rfl
  .walk_nrm;exact ha _ c.bs N L L c.bo c.oo c.co x _ c.ys (O9.xP c sF).2.2.1 akZ (afp _ _ arh (by intro x hx;rw[List.mem_replicate]at hx;omega)) hys (by show List.length _=L;rw[BZ];simp) (ak _) hly (by simp[maxLen];omega) (hAF _ hF)
  rintro v w' ⟨rfl,haf⟩
  have hsn:(EH ws cs).take (j+1)=(EH ws cs).take j++[(x,c.ys)]:=by
   rw[List.take_add_one]
   congr 1
   simp[EH,List.getElem?_zip_eq_some,hxj,hcj]
  replace hF:CG Wg C n B Cl w N (comb ((EH ws cs).take (j+1)) (List.replicate L 0)) w':=⟨haf.bs,hF.back hb haf.ex,hF.lo,haf.ml,by rw[hsn,Qy];exact haf.hx⟩;clear haf hAF;walk_nrm;co_apply aX p_;co_then;co_reg p_;co_op CG.rely hF (co_quiet p_);co_op CG.rely hF (co_quiet p_);co_apply aX p_;co_then;have BB:IntKind.i64.wrap ((j:Int)+1)=((j+1:Nat):Int):=gV;simp only[BB];refine⟨⟨j+1,_,_,_,_,_,_,_,_,_,_,_,_,_,_,_,_,_,_,_,_,_,_,_,ae,hF,rfl⟩,?_⟩;simp[muC];omega
 .intro Nz;have hjk:j=k:=au9;have xe:(EH ws cs).take j=EH ws cs:=iF (by simp[EH];omega);rw[xe]at hF
  co_ctl p_
  co_then;co_apply aY p_;co_reg p_;co_op CG.rely hF (co_quiet p_);co_op CG.rely hF (co_quiet p_);co_apply aX p_;co_then;co_apply wpC_ret p_;exact awH
end
end Go.Proofs.Y
namespace Go.Lf
open Go.Conc
def ZN:Obj->Bool
 | .view a _=>!a.spot.isSome
 | .pending ..=>true
 |_=>false
def shut:Obj->Obj
 | .view _ t=>.view ⟨0,0,some default⟩ t
 | .pending ..=>.stringIter .empty 0
 |o=>o
def aph:Obj->Obj
 | .cells _ t fr=>.cells #[] t fr
 |o=>o
theorem amJ{o:Obj}(h:ZN o=false):wL o:=by cases o<;>first|trivial|(simp[ZN]at h;exact h)|cases h
theorem acj{o:Obj}(h:ZN o=true):OC o (shut o):=by cases o<;>first|exact .inl ⟨_,_,rfl,rfl⟩|exact .inr ⟨_,_,rfl,rfl⟩|cases h
end Go.Lf
namespace Go.Proofs.Y
open Go.Proofs.Tryz
theorem aaE(n:Nat)(f:Nat->F):F.sum (List.range (n+1)) f=F.add (F.sum (List.range n) f) (f n):=by
 have key:∀(l:List Nat)(x:Nat),F.sum (l++[x]) f=F.add (F.sum l f) (f x):=λl x=>by
  induction l with
  |nil=>simp only[bg,F.sum];rw[F.add_zero,F.zero_add]
  |cons y l ih=>simp only[aV,F.sum,ih,F.add_assoc]
 rw[dC,key]
theorem Us(w:Nat->Nat)(c:Nat->List Nat)(L m:Nat)(hm:m<L)(hc:∀j,(c j).length=L):∀n:Nat,
  (comb ((List.range n).map λj=>(w j,c j)) (List.replicate L 0)).getD m 0=Nat.rec (motive:=λ_=>Nat) 0 (λj r=>r^^^mul ((c j).getD m 0) (w j)) n
 |0=>by show(List.replicate L 0).getD m 0=0;simp[hm]
 |n+1=>by
  rw[dC,iH];simp only[fE,jm];rw[Qy];have hl:(comb ((List.range n).map λj=>(w j,c j)) (List.replicate L 0)).length=L:=by rw[BZ];simp
  have ih:=Us w c L m hm hc n
  have key:∀(f:Nat)(xs ys:List Nat)(m:Nat),m<xs.length->m<ys.length->(AU f xs ys).getD m 0=xs.getD m 0^^^mul (ys.getD m 0) f:=by
   intro f xs
   induction xs with
   |nil=>intro ys m h;simp at h
   |cons x xs ihx=>
    intro ys m h h';cases ys with
    |nil=>simp at h'
    |cons y ys=>
     cases m with
     |zero=>simp[AU]
     |succ m=>
      simp only[AU,List.getD_cons_succ];exact ihx ys m kZ (by simpa using h')
  rw[key _ _ _ m (by rw[hl];exact hm) (by rw[hc];exact hm),ih]
theorem aeK(K:Nat)(R X:Nat->F):∀n,Nat.rec (motive:=λ_=>Nat) 0 (λj r=>r^^^mul (X j).val (R j).val) n=(F.sum (List.range n) λj=>F.mu (R j) (X j)).val
 |0=>rfl
 |n+1=>by rw[aaE];show _^^^_=(F.sum (List.range n) λj=>F.mu (R j) (X j)).val^^^(F.mu (R n) (X n)).val;rw[<-aeK K R X n,F.yL];rfl
end Go.Proofs.Y
namespace Go.Lf
open Go.Conc Go.Gh Go.RowKit
open Classical
noncomputable def Nj(X:Nat->Prop)(b:Nat)(o:Obj):Obj:=if X b then aph o else if ZN o then shut o else o
theorem Tf(w:World)(X:Nat->Prop)(h:∀b,X b->∃cs t,w.heap[b]?=some (.cells cs t (0,0))):
  ∃(Y:Nat->Option Obj)(v:World),xE X Y w v/\(∀b c t fr,¬X b->w.heap[b]?=some (.cells c t fr)->v.heap[b]?=some (.cells c t fr)):=by
 let Y:Nat->Option Obj:=λb=>if X b then none else(w.heap[b]?).bind λo=>if ZN o then some o else none
 have Lh:∀b,(w.heap.mapIdx (Nj X))[b]?=(w.heap[b]?).map (Nj X b):=λb=>ai
 have hY:∀b o,Y b=some o->¬X b/\w.heap[b]?=some o/\ZN o=true:=λb o hy=>by
  simp only[Y]at hy;split at hy
  .cases hy
  .rename_i hne;cases hb:w.heap[b]? with
   |none=>rw[hb]at hy;cases hy
   |some o'=>
    rw[hb]at hy;simp only[fB]at hy;split at hy
    .rename_i hg;cases hy;exact⟨hne,rfl,hg⟩
    .cases hy
 refine⟨Y,{w with heap:=w.heap.mapIdx (Nj X)},⟨ai,λb hb=>?_,λb hx hy=>?_,λb o hy=>?_,λb hx=>?_,λb o hb=>?_,rfl,rfl,λ_ _=>rfl,λb cs t fr hx hb=>?_⟩,λb c t fr hx hb=>?_⟩
 .rcases hb with hb|hb
  .obtain⟨cs,t,hc⟩:=h b hb;simpa using(bf.1 hc).1
  .obtain⟨o,ho⟩:=avb.1 hb;simpa using(bf.1 (hY b o ho).2.1).1
 .show w.heap[b]?=(w.heap.mapIdx (Nj X))[b]?;rw[Lh];cases hb:w.heap[b]? with
  |none=>rfl
  |some o=>
   simp only[Y,ah hx,hb,fB]at hy
   have hg:ZN o=false:=by
    cases hg:ZN o with
    |false=>rfl
    |true=>rw[hg]at hy;cases hy
   simp only[dJ,Nj,ah hx,hg,bu,aU]
 .obtain⟨h1,h2,h3⟩:=hY b o hy;refine⟨shut o,h2,?_,acj h3⟩;show(w.heap.mapIdx (Nj X))[b]?=_;rw[Lh,h2];simp only[dJ,Nj,ah h1,h3,aF]
 .obtain⟨cs,t,hc⟩:=h b hx;refine⟨cs,t,(0,0),hc,?_⟩;show(w.heap.mapIdx (Nj X))[b]?=_;rw[Lh,hc];simp only[dJ,Nj,aj hx,aph]
 .change(w.heap.mapIdx (Nj X))[b]?=some o at hb;rw[Lh]at hb;obtain⟨o',h1,rfl⟩:=bT.1 hb;unfold Nj;split
  .rename_i hx;obtain⟨cs,t,hc⟩:=h b hx;rw[h1]at hc;cases hc;trivial
  .split
   .rename_i hg;exact(acj hg).nv
   .rename_i hg;exact amJ (by simpa using hg)
 .change(w.heap.mapIdx (Nj X))[b]?=_ at hb;obtain⟨cs',t',hc⟩:=h b hx;rw[Lh,hc]at hb;simp only[dJ,Nj,aj hx,aph,gy,Obj.cells.injEq]at hb;exact hb.2.2.symm
 .show(w.heap.mapIdx (Nj X))[b]?=_;rw[Lh,hb];simp only[dJ,Nj,ah hx,ZN,bu,aU]
theorem YN{X:Nat->Prop}{Shun:Loc->Prop}(h:∀l,Shun l->∃a:Addr,l=.cell a/\X a.block):vw X (DM Shun):=by
 intro n w es hs hev;refine⟨hs,λe he=>?_⟩;rcases hev e he with⟨a,wr,rfl,h2,h3⟩|⟨r,wr,sy,rfl,_,_⟩|⟨m0,hm0,rfl⟩
 .refine⟨⟨λx hx hsh=>?_,ai,ai⟩,λx hx ad ead=>?_⟩
  .simp only[MemAct.ofEvent,MemAct.touch?,gy]at hx;subst hx;obtain⟨a',h4,h5⟩:=h _ hsh;cases h4;exact absurd h5 h3
  .simp only[MemAct.ofEvent,MemAct.touch?,gy]at hx;subst hx;cases ead;exact h2
 .have no:∀x,(MemAct.ofEvent ⟨.obj r,wr,sy⟩).touch?=some x->∀a:Addr,x.loc≠.cell a:=λx hx a e=>by
   cases wr<;>cases sy<;>simp only[MemAct.ofEvent,MemAct.touch?,gy,reduceCtorEq]at hx<;>(subst hx;cases e)
  exact⟨⟨λx hx hsh=>by obtain⟨a',h4,_⟩:=h _ hsh;exact absurd h4 (no x hx a'),ai,ai⟩,λx hx ad ead=>absurd ead (no x hx ad)⟩
 .rcases hm0 with rfl|⟨_,rfl⟩<;>exact⟨⟨λx hx=>avA,ai,ai⟩,λx hx=>avA⟩
def sK(B:Nat)(w w':World):Prop:=Below B {w with tape:=w'.tape} w'
theorem sK.of{B:Nat}{w w':World}(h:Below B w w'):sK B w w':=⟨h.os,rfl,h.output,h.size,h.block⟩
theorem sK.refl(B:Nat)(w:World):sK B w w:=sK.of (aA B w)
theorem sK.tp{B:Nat}{w w':World}(h:sK B w w')(τ:Nat->Question->Nat)(d:Nat):sK B w {w' with tape:=τ,drawn:=d}:=⟨h.os,rfl,h.output,h.size,h.block⟩
theorem sK.trans{B B':Nat}{w w' w'':World}(h:sK B w w')(h':sK B' w' w'')(hB:B<=B'):sK B w w'':=⟨h'.os.trans h.os,rfl,h'.output.trans h.output,aJ h.size h'.size,λk hk=>(h'.block k (aK hk hB)).trans (h.block k hk)⟩
theorem sK.sH{B:Nat}{w w':World}(h:sK B w w'):w.heap.size<=w'.heap.size:=h.size
theorem sK.blk{B:Nat}{w w':World}(h:sK B w w'){k:Nat}(hk:k<B):w'.heap[k]?=w.heap[k]?:=h.block k hk
theorem sK.mono{B B':Nat}{w w':World}(h:sK B w w')(hB:B'<=B):sK B' w w':=⟨h.os,rfl,h.output,h.size,λk hk=>h.block k (aK hk hB)⟩

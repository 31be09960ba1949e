import Derived.Test.YtnbflnamlpodcaaGreatDoorGjB
set_option maxHeartbeats 2000000
set_option maxRecDepth 100000
namespace Go.Proofs.Y
open Go.Conc Go.RowKit Go.Gh
open Go.ConcR (Payload)
def sD(xs:List Nat):Array Value:=(xs.map λx=>(Value.int .u8 ((x:Nat):Int))).toArray
theorem wR(xs:List Nat)(i:Nat):(sD xs)[i]?=(xs[i]?).map λx=>Value.int .u8 ((x:Nat):Int):=by simp[sD]
theorem Pg(xs:List Nat)(i x:Nat):(sD xs).setIfInBounds i (.int .u8 ((x:Nat):Int))=sD (xs.set i x):=by simp[sD]
def zi(f:Nat):List Nat->List Nat->List Nat
 |x::xs,y::ys=>(x^^^mul y f)::zi f xs ys
 |xs,_=>xs
theorem Yz(f:Nat)(xs:List Nat):zi f xs []=xs:=by cases xs<;>rfl
theorem Oa(f:Nat):∀xs ys:List Nat,(zi f xs ys).length=xs.length
 |[],_=>by simp[zi]
 |_::_,[]=>by simp[zi]
 |x::xs,y::ys=>by simp[zi,Oa f xs ys]
theorem Uu:∀xs ys:List Nat,zi 0 xs ys=xs
 |[],_=>rfl
 |_::_,[]=>rfl
 |x::xs,y::ys=>by simp[zi,Uu xs ys,mul_zero]
theorem YA(f:Nat):∀(xs ys:List Nat)(i:Nat),ys.length<=i->(zi f xs ys)[i]?=xs[i]?
 |[],_,_,_=>by simp[zi]
 |_::_,[],_,_=>by simp[zi]
 |x::xs,y::ys,0,h=>by simp at h
 |x::xs,y::ys,i+1,h=>by simp[zi,YA f xs ys i oq]
theorem Uw(f:Nat):∀(xs ys:List Nat)(m x y:Nat),xs[m]?=some x->ys[m]?=some y->(zi f xs (ys.take m)).set m (x^^^mul y f)=zi f xs (ys.take (m+1))
 |[],_,_,_,_,h,_=>by simp at h
 |_::_,[],_,_,_,_,h=>by simp at h
 |a::xs,b::ys,0,x,y,h1,h2=>by simp at h1 h2;subst h1;subst h2;simp[zi,Yz]
 |a::xs,b::ys,m+1,x,y,h1,h2=>by simp[zi];simpa using Uw f xs ys m x y gG iT
theorem abx(f:Nat)(hf:f<256):∀xs ys:List Nat,(∀x∈xs,x<256)->(∀y∈ys,y<256)->∀z∈zi f xs ys,z<256
 |[],_,_,_=>by simp[zi]
 |_::_,[],h,_=>by simpa[zi]using h
 |x::xs,y::ys,h1,h2=>by
  intro z hz;simp only[zi,dw]at hz;rcases hz with rfl|hz
  .exact Am (h1 x ai) (mul_lt (h2 y ai))
  .exact abx f hf xs ys (λa ha=>h1 a (by simp[ha])) (λa ha=>h2 a (by simp[ha])) z hz
theorem akt{o:Oper}{a:Act}{X:Act->World->Prop}{r:Result Next}(h:∀K:Act->World->Prop,(∀a' w',X a' w'->K a' w')->uponK o a K r):uponK o a X r:=h X λ_ _ x=>x
section
variable [Payload][qN]{main:Bool}{Wg C n B:Nat}{Cl:Nat->Prop}
structure AF(Wg C n B:Nat)(Cl:Nat->Prop)(w0:World)(bl:Nat)(cur:List Nat)(bo oo:Nat)(ys:List Nat)(w:World):Prop where
 bs:Bs C B w
 ex:Ex Wg C n B Cl (· =bl) w0 w
 ml:Mine w bl
 neC:bl≠C
 hB:B<=bl
 rdo:Og Wg C B w bo
 lto:bo<w.heap.size
 neo:bo≠bl
 hx:w.heap[bl]?=some (.cells (sD cur) 5)
 hy:∀i y,ys[i]?=some y->w.cell? ⟨bo,oo+i,none⟩=some (.int .u8 ((y:Nat):Int))
section
variable {w0 w w₁:World}{bl bo oo:Nat}{cur ys:List Nat}
theorem AF.call(h:AF Wg C n B Cl w0 bl cur bo oo ys w)(hb:Bs C B w₁)(r:Ex Wg C n B Cl (λ_=>False) w w₁):AF Wg C n B Cl w0 bl cur bo oo ys w₁:=
 ⟨hb,h.ex.trans (r.weaken λ_=>False.elim),r.own _ h.ml,h.neC,h.hB,r.We h.rdo,aN h.lto r.size,h.neo,(r.mine _ h.ml id).trans h.hx,λi y e=>by rw[<-h.hy i y e];simp only[World.cell?,r.stands h.rdo id]⟩
theorem AF.rely(h:AF Wg C n B Cl w0 bl cur bo oo ys w)(r:Ro Wg C n B Cl w w₁):AF Wg C n B Cl w0 bl cur bo oo ys w₁:=h.call (h.bs.rely r) r.ex
theorem AF.set(h:AF Wg C n B Cl w0 bl cur bo oo ys w)(i x:Nat):AF Wg C n B Cl w0 bl (cur.set i x) bo oo ys (w.setCell ⟨bl,i,none⟩ (.int .u8 ((x:Nat):Int))):=
 ⟨h.bs.set _ _,h.ex.trans (Ex.set h.neC rfl (λhh=>by have:=h.hB;dsimp only at hh;omega)),rD (w:=w) (w':=w.setCell _ _) rfl dJ h.ml,h.neC,h.hB,
  h.rdo.imp (λx=>rD (w:=w) (w':=w.setCell _ _) rfl dJ x) id,by rw[rZ];exact h.lto,h.neo,by rw[heap_set w h.hx,Pg],λi y e=>by
  rw[m_ _ _ _ _ (by intro e;injection e with e1;exact h.neo e1.symm)];exact h.hy i y e⟩
end
structure AG(Wg C n B:Nat)(Cl:Nat->Prop)(w0:World)(bl:Nat)(cur:List Nat)(bo oo:Nat)(ys:List Nat)(N6:Nat)(T:Array Value)(w:World):Prop where
 af:AF Wg C n B Cl w0 bl cur bo oo ys w
 m6:Mine w N6
 n6:N6≠bl
 h6:w.heap[N6]?=some (.cells T 209)
section
variable {w0 w w₁:World}{bl bo oo N6:Nat}{T:Array Value}{cur ys:List Nat}
theorem AG.rely(h:AG Wg C n B Cl w0 bl cur bo oo ys N6 T w)(r:Ro Wg C n B Cl w w₁):AG Wg C n B Cl w0 bl cur bo oo ys N6 T w₁:=⟨h.af.rely r,(r.wQ _).2 h.m6,h.n6,(r.mine _ h.m6).trans h.h6⟩
theorem AG.draw(h:AG Wg C n B Cl w0 bl cur bo oo ys N6 T w)(d:Nat):AG Wg C n B Cl w0 bl cur bo oo ys N6 T {w with drawn:=d}:=
 ⟨⟨⟨h.af.bs.tg,h.af.bs.hC,h.af.bs.hB,h.af.bs.ow⟩,⟨h.af.ex.size,h.af.ex.tape,h.af.ex.os,h.af.ex.tag,h.af.ex.own,h.af.ex.mine,h.af.ex.low,h.af.ex.cell,h.af.ex.pay⟩,h.af.ml,h.af.neC,h.af.hB,h.af.rdo,h.af.lto,h.af.neo,h.af.hx,h.af.hy⟩,h.m6,h.n6,h.h6⟩
theorem AG.tab{f:Nat}(hT:yt f 256=T)(h:AG Wg C n B Cl w0 bl cur bo oo ys N6 T w){x:Nat}(hx:x<256):w.cell? ⟨N6,x,none⟩=some (.int .u8 ((mul x f:Nat):Int)):=by rw[cell_of _ h.h6,<-hT,zY _ _ _ hx,aj hx]
theorem AG.at(h:AG Wg C n B Cl w0 bl cur bo oo ys N6 T w){i x:Nat}(hx:cur[i]?=some x):w.cell? ⟨bl,i,none⟩=some (.int .u8 ((x:Nat):Int)):=by rw[cell_of _ h.af.hx,wR,hx];rfl
theorem AG.set(h:AG Wg C n B Cl w0 bl cur bo oo ys N6 T w)(i x:Nat):AG Wg C n B Cl w0 bl (cur.set i x) bo oo ys N6 T (w.setCell ⟨bl,i,none⟩ (.int .u8 ((x:Nat):Int))):=
 ⟨h.af.set i x,rD (w:=w) (w':=w.setCell _ _) rfl dJ h.m6,h.n6,(bG _ _ _ _ h.n6).trans h.h6⟩
theorem AF.alloc(h:AF Wg C n B Cl w0 bl cur bo oo ys w)(T:Array Value):AG Wg C n B Cl w0 bl cur bo oo ys w.heap.size T (w.alloc (.cells T 209)):=
 ⟨h.call (h.bs.alloc _) (Ex.alloc h.bs.hC h.bs.hB (λ_ x=>h.bs.lt x) _),yj (w:=w) (w':=w.alloc _) rfl h.bs.tg (ak _) gI,by have:=h.bs.lt h.ml;omega,BG w _⟩
theorem AG.row{T':Array Value}(h:AG Wg C n B Cl w0 bl cur bo oo ys N6 T' w)(amT:bo≠N6)(h0:Bs C B w0)(hN:w0.heap.size<=N6)(T:Array Value):AG Wg C n B Cl w0 bl cur bo oo ys N6 T (w.setRow N6 T):=
 ⟨⟨h.af.bs.row _ _,Y1 h.af.ex h0 hN _,rD (w:=w) (w':=w.setRow _ _) rfl h_ h.af.ml,h.af.neC,h.af.hB,h.af.rdo.imp (λx=>rD (w:=w) (w':=w.setRow _ _) rfl h_ x) id,
   by rw[vM];exact h.af.lto,h.af.neo,(sJ w _ (dh h.n6)).trans h.af.hx,λi y e=>by rw[yQ w _ (by exact amT)];exact h.af.hy i y e⟩,
   rD (w:=w) (w':=w.setRow _ _) rfl h_ h.m6,h.n6,JD _ h.h6⟩
end
def AL(ys:List Nat)(k:Nat):Prop:=ys.length=k
def AI(Wg C n B:Nat)(Cl:Nat->Prop)(w0:World)(bl nl cl:Nat)(xs:List Nat)(bs:Option Addr)(bo oo co:Nat)(ys:List Nat)(N6:Nat)(T:Array Value)(f k:Nat)(a:Act)(w:World):Prop:=
 ∃(m:Nat)(v3 v4 v5 v7 v8 v9 v10 v11 v12 v16 v17 v18 v19 v20 v21 v22 v23 v24 v25 v26 v27 v28 v29:Value),m<=k/\AG Wg C n B Cl w0 bl (zi f xs (ys.take m)) bo oo ys N6 T w/\a={tmps:=#[.slice (some ⟨bl,0,none⟩) nl cl,.int .u8 (f:Int),.slice bs k co,v3,v4,v5,.pointer (some ⟨N6,0,none⟩),v7,v8,v9,v10,v11,v12,.slice bs k co,.int .i64 ((k:Nat):Int),.int .i64 ((m:Nat):Int),v16,v17,v18,v19,v20,v21,v22,v23,v24,v25,v26,v27,v28,v29],defers:=[]}
def muA(k:Nat)(a:Act)(_:World):Nat:=match a.tmps.getD 15 undef with| .int _ j=>k-j.toNat|_=>0
theorem aaE(k:Nat):∃q,∀(w:World)(bs:Option Addr)(bl nl cl bo oo co f:Nat)(xs ys:List Nat),(0<k->bs=some ⟨bo,oo,none⟩)->f<256->(∀x∈xs,x<256)->(∀y∈ys,y<256)->AL xs nl->k<=nl->AL ys k->nl<=maxLen->AF Wg C n B Cl w bl xs bo oo ys w->
  CallsC Tryz.prog main (Ro Wg C n B Cl) (Dg Wg C n B Cl) 91 #[.slice (some ⟨bl,0,none⟩) nl cl,.int .u8 (f:Int),.slice bs k co] q w λv w'=>v=.tuple #[]/\AF Wg C n B Cl w bl (zi f xs ys) bo oo ys w':=by
 obtain⟨kp,hp⟩:=Y5 (main:=main) (Wg:=Wg) (C:=C) (n:=n) (B:=B) (Cl:=Cl);co_apply Exists.intro;intro w bs bl nl cl bo oo co f xs ys hbs hf hxs hys hnl hle hk hmax hF;have hbw:=hF.bs;co_apply callsC_of_wpC Tryz.func91 ax rfl;simp only[Tryz.ntmps91,dU,bM,dA,Nat.reduceAdd,Nat.reduceSub,cu,b_,bV,bY,bf,aW];co_apply aZ p_;co_apply aZ p_;co_reg p_;co_op AF.rely hF (co_quiet p_);co_op AF.rely hF (co_quiet p_);co_apply aX p_;co_then
 co_split p_ ((f:Int)==0)
 .intro h0
  obtain rfl:f=0:=by have:(f:Int)=0:=by simpa using h0
                     omega
  co_apply wpC_ret p_;exact⟨rfl,_,resultsC_none ax _,rfl,by rw[Uu];exact hF⟩
 .intro h0;clear h0
  co_ctl p_
  co_then;co_apply aZ p_;co_reg p_;co_op AF.rely hF (co_quiet p_);co_apply YX p_ rfl ax rfl
  .walk_nrm;exact hp _ _ hf hF.bs
  rintro v w' ⟨rfl,hb',hex⟩;replace hF:=hF.call hb' hex;clear hb' hex;obtain⟨T,hT,hTs,hT1⟩:∃T,yt f 256=T/\T.size=256/\∀v∈T,v.oneCell'=true:=⟨_,rfl,tH f _,FT f _⟩;simp only[hT];walk_nrm
  co_opw AF.rely hF (skip) (rw[listed_nil aoe];exact xP hF.bs.hC _ rfl)
  have hlo:=hF.ex.size;have hlt:=hF.lto;replace hF:=hF.alloc Tryz.zeroCells209;generalize hN6:Array.size (World.heap _)=N6 at hF hlo hlt⊢;clear hN6;co_apply opsC_cons rfl ax;intro w₁ r;replace hF:=hF.rely r;clear r;have hz:Tryz.zeroCells209.size=256:=aoI;have hrun:=JC (c':=T) hF.h6 hz hTs hT1;rw[JB (v:=.agg T) rfl rfl rfl hrun];simp only[uponK_skip];have amU:N6≠C:=by have:=hbw.hC;omega
  refine⟨?_,?_⟩
  .unfold listed;rw[Nb (v:=.agg T) rfl rfl rfl];exact adL hF.m6 amU (hF.af.bs.lt hF.m6) (λe he=>Nc (c':=T) hF.h6 hz hTs hT1 e (mem_seen he))
  clear hrun;replace hF:=hF.row ae hbw hlo T;walk_nrm;co_apply aX p_;co_then;co_apply aZ p_;co_reg p_;co_op AG.rely hF (co_quiet p_);co_op AG.rely hF (co_quiet p_);co_op AG.rely hF (co_quiet p_);co_apply aX p_;co_then;co_apply jS p_;co_apply jw p_ (AI Wg C n B Cl w bl nl cl xs bs bo oo co ys N6 T f k) (muA k) _ k
  .exact⟨0,_,_,_,_,_,_,_,_,_,_,_,_,_,_,_,_,_,_,_,_,_,_,_,gV _,by rw[lX,Yz];exact hF,rfl⟩
  .simp[muA]
  rintro a w' ⟨m,v3,v4,v5,v7,v8,v9,v10,v11,v12,v16,v17,v18,v19,v20,v21,v22,v23,v24,v25,v26,v27,v28,v29,hm,hF,rfl⟩;co_apply aZ p_;co_reg p_;co_op AG.rely hF (co_quiet p_);co_apply aX p_;co_then;co_apply aZ p_
  co_split p_ (decide ((m:Int)<(k:Int)))
  .intro hml;have amV:m<k:=by have:=gQ hml;omega
   clear hml;obtain rfl:bs=some ⟨bo,oo,none⟩:=hbs ae;obtain⟨y,hy⟩:∃y,ys[m]?=some y:=⟨ys[m]'(by rw[show ys.length=k from hk];exact amV),ai⟩;obtain⟨x,hx⟩:∃x,xs[m]?=some x:=⟨xs[m]'(by rw[show xs.length=nl from hnl];omega),ai⟩;have agD:y<256:=hys y (iy hy);have hx256:x<256:=hxs x (iy hx);have hcx:(zi f xs (ys.take m))[m]?=some x:=by rw[YA f xs _ m az];exact hx
   have hmI:(m:Int)<(k:Int):=ae;have hmN:(m:Int)<(nl:Int):=ae;have hyI:(y:Int)<256:=ae;have hmul:mul y f<256:=mul_lt agD
   co_ctl p_
   co_then;co_apply aZ p_;co_apply jS p_;co_apply aZ p_;co_reg p_;co_op AG.rely hF (co_quiet p_)
   co_opw AG.rely hF (skip) (co_still p_)
   co_opw AG.rely hF (have hc:=hF.af.hy m y hy) (refine su hF.af.rdo hF.af.lto ?_;co_evs (exact⟨_,rfl,rfl⟩))
   clear hc;co_op AG.rely hF (co_quiet p_);co_op AG.rely hF (co_quiet p_);co_apply aX p_;co_then;co_apply yR (nf:=0) (S:=AG Wg C n B Cl w bl (zi f xs (ys.take m)) bo oo ys N6 T) (lst:=9) p_ aaN (by first|kernel_rfl|rfl);intro w₁ r;replace hF:=(hF.rely r).draw (w₁.drawn+1);clear r;simp only[dU,bM,dA,Nat.reduceAdd,aS];have hix:∀(w:World)(es:Array Event),(Instr.indexAt 209 (.pointer (some ⟨N6,0,none⟩)) (.int .u8 (y:Int))).events Tryz.prog w es=es:=λw es=>events_indexAt_array _ _ _ _ _ _ Tryz.underlying209 ⟨ae,ae⟩
   co_applyP rE p_ (λ_ _ h r=>AG.rely h r) (λ_ _ _ h r=>ig p_ h r) (i:=0) rfl ag ag ag ag ag (.inl ⟨ax,λ_ hw=>⟨run_eq_of ?amW,?alU⟩⟩) hF ?am9
   case amW=>
    exact aqg
   case alU=>
    skip
    co_quiet p_
   try walk_nrm
   co_applyP rE p_ (λ_ _ h r=>AG.rely h r) (λ_ _ _ h r=>ig p_ h r) (i:=1) rfl ag ag ag ag ag (.inl ⟨ax,λ_ hw=>⟨run_eq_of ?amX,?alV⟩⟩) hF ?am_
   case amX=>
    exact aqg
   case alV=>
    skip
    co_quiet p_
   try walk_nrm
   co_applyP rE p_ (λ_ _ h r=>AG.rely h r) (λ_ _ _ h r=>ig p_ h r) (i:=2) rfl ag ag ag ag ag (.inl ⟨ax,λ_ hw=>⟨run_eq_of ?amY,?alW⟩⟩) hF ?ana
   case amY=>
    exact aqg
   case alW=>
    skip
    co_still p_
   try walk_nrm
   co_applyP rE p_ (λ_ _ h r=>AG.rely h r) (λ_ _ _ h r=>ig p_ h r) (i:=3) rfl ag ag ag ag ag (.inl ⟨ax,λ_ hw=>⟨run_eq_of ?amZ,?alX⟩⟩) hF ?anb
   case amZ=>
    intro K hK;have hc:=hw.at hcx;go_simp;exact hK
   case alX=>
    have hc:=hw.at hcx;refine su (.inl hw.af.ml) (hw.af.bs.lt hw.af.ml) ?_;co_evs (exact⟨_,rfl,rfl⟩)
   try walk_nrm
   co_applyP rE p_ (λ_ _ h r=>AG.rely h r) (λ_ _ _ h r=>ig p_ h r) (i:=4) rfl ag ag ag ag ag (.inl ⟨ax,λ_ hw=>⟨run_eq_of ?am0,?alY⟩⟩) hF ?anc
   case am0=>
    exact aqg
   case alY=>
    skip
    co_quiet p_
   try walk_nrm
   co_applyP rE p_ (λ_ _ h r=>AG.rely h r) (λ_ _ _ h r=>ig p_ h r) (i:=5) rfl ag ag ag ag ag (.inl ⟨ax,λ_ hw=>⟨run_eq_of ?am1,?alZ⟩⟩) hF ?ane
   case am1=>
    exact aqg
   case alZ=>
    skip
    co_still p_
   try walk_nrm
   co_applyP rE p_ (λ_ _ h r=>AG.rely h r) (λ_ _ _ h r=>ig p_ h r) (i:=6) rfl ag ag ag ag ag (.inl ⟨ax,λ_ hw=>⟨run_eq_of ?am2,?al0⟩⟩) hF ?anf
   case am2=>
    intro K hK;have hc:=hw.tab hT agD;go_simp;exact hK
   case al0=>
    have hc:=hw.tab hT agD;refine su (.inl hw.m6) (hw.af.bs.lt hw.m6) ?_;co_evs (exact⟨_,rfl,rfl⟩)
   try walk_nrm
   co_applyP rE p_ (λ_ _ h r=>AG.rely h r) (λ_ _ _ h r=>ig p_ h r) (i:=7) rfl ag ag ag ag ag (.inl ⟨ax,λ_ hw=>⟨run_eq_of ?am3,?al1⟩⟩) hF ?ang
   case am3=>
    exact aqg
   case al1=>
    skip
    co_quiet p_
   try walk_nrm
   co_applyP rE p_ (λ_ _ h r=>AG.rely h r) (λ_ _ _ h r=>ig p_ h r) (i:=8) rfl ag ag ag ag ag (.inl ⟨ax,λ_ hw=>⟨run_eq_of ?am4,?al2⟩⟩) hF ?anh
   case am4=>
    exact aqg
   case al2=>
    skip
    co_still p_
   try walk_nrm
   co_applyP DF (i:=9) ag
   refine⟨_,rfl,.inl ⟨ax,?_⟩⟩;intro w₂ r;replace hF:=hF.rely r;clear r;refine akt ?_;intro K hK;have hc:=hF.at hcx;have hz:=uI _ hF.af.hx m;go_simp
   try(unfold stored;go_simp)
   refine hK _ _ ⟨?_,λh=>absurd rfl h,?_⟩
   .refine Lr hF.af.ml hF.af.neC (hF.af.bs.lt hF.af.ml) ?_
    co_evs (exact⟨_,_,rfl,rfl⟩)
   clear hK K hc hz;replace hF:=hF.set m (x^^^mul y f);rw[Uw f xs ys m x y hx hy,<-u8_xor_nat _ _ hx256 hmul]at hF;refine Hf ag ?_ _;co_then;co_reg p_;co_op AG.rely hF (co_quiet p_);co_op AG.rely hF (co_quiet p_);co_apply aX p_;co_then
   have hw1:IntKind.i64.wrap ((m:Int)+1)=((m+1:Nat):Int):=by
    have:nl<=9223372036854775807:=by simpa[maxLen]using hmax
    rw[dR];omega
   simp only[hw1];refine⟨⟨m+1,_,_,_,_,_,_,_,_,_,_,_,_,_,_,_,_,_,_,_,_,_,_,_,ae,hF,rfl⟩,?_⟩;simp[muA];omega
  .intro hml;have hmk:m=k:=by have:=iG hml;omega
   have hall:ys.take m=ys:=iJ (by rw[show ys.length=k from hk];omega)
   co_ctl p_
   co_then;exact⟨rfl,_,resultsC_none ax _,rfl,by rw[hall]at hF;exact hF.af⟩
end
structure Ph where
 bs:Option Addr
 bo:Nat
 oo:Nat
 co:Nat
 ys:List Nat
def comb:List (Nat×List Nat)->List Nat->List Nat
 |[],cur=>cur
 |z::zs,cur=>comb zs (zi z.1 cur z.2)
theorem z_:∀(zs:List (Nat×List Nat))(cur:List Nat),(comb zs cur).length=cur.length
 |[],_=>rfl
 |z::zs,cur=>by rw[comb,z_ zs,Oa]
theorem MW:∀(zs:List (Nat×List Nat))(cur:List Nat)(z:Nat×List Nat),comb (zs++[z]) cur=zi z.1 (comb zs cur) z.2
 |[],_,_=>rfl
 |y::zs,cur,z=>by rw[aW,comb,MW zs,comb]
theorem aby:∀(zs:List (Nat×List Nat))(cur:List Nat),(∀z∈zs,z.1<256/\∀y∈z.2,y<256)->(∀x∈cur,x<256)->∀x∈comb zs cur,x<256
 |[],_,_,h=>h
 |z::zs,cur,h1,h2=>aby zs _ (λy hy=>h1 y (by simp[hy])) (abx z.1 (h1 z ai).1 cur z.2 h2 (h1 z ai).2)
theorem adm(L:Nat):madeCells #[.int .u8 0] L=sD (List.replicate L 0):=by
 apply kR;intro i;rw[wR];by_cases h:i<L
 .simp[madeCells,h,Nat.mod_one]
 .simp[madeCells,h]
section
variable [Payload][qN]{main:Bool}{Wg C n B:Nat}{Cl:Nat->Prop}
structure CIn(Wg C B:Nat)(bw ow bc oc L:Nat)(ws:List Nat)(cs:List Ph)(w:World):Prop where
 rw:Og Wg C B w bw
 lw:bw<w.heap.size
 rc:Og Wg C B w bc
 lc:bc<w.heap.size
 hw:∀j x,ws[j]?=some x->w.cell? ⟨bw,ow+j,none⟩=some (.int .u8 ((x:Nat):Int))
 hc:∀j c,cs[j]?=some c->w.cell? ⟨bc,oc+j,none⟩=some (.slice c.bs L c.co)
 wF:∀c∈cs,Og Wg C B w c.bo/\c.bo<w.heap.size/\(0<L->c.bs=some ⟨c.bo,c.oo,none⟩)/\∀i y,c.ys[i]?=some y->w.cell? ⟨c.bo,c.oo+i,none⟩=some (.int .u8 ((y:Nat):Int))
theorem CIn.ex{w w₁:World}{bw ow bc oc L:Nat}{ws:List Nat}{cs:List Ph}(h:CIn Wg C B bw ow bc oc L ws cs w)(r:Ex Wg C n B Cl (λ_=>False) w w₁):CIn Wg C B bw ow bc oc L ws cs w₁:=by
 have st:∀{b:Nat},Og Wg C B w b->∀o,w₁.cell? ⟨b,o,none⟩=w.cell? ⟨b,o,none⟩:=λhb o=>aoa
 exact⟨r.We h.rw,aN h.lw r.size,r.We h.rc,aN h.lc r.size,λj x e=>(st h.rw _).trans (h.hw j x e),λj c e=>(st h.rc _).trans (h.hc j c e),
  λc hc=>let⟨h1,h2,h3,h4⟩:=h.wF c hc;⟨r.We h1,aN h2 r.size,h3,λi y e=>(st h1 _).trans (h4 i y e)⟩⟩
structure CF(Wg C n B:Nat)(Cl:Nat->Prop)(w0 w:World):Prop where
 bs:Bs C B w
 ex:Ex Wg C n B Cl (λ_=>False) w0 w
omit [qN]in
theorem CF.rely{w0 w w₁:World}(h:CF Wg C n B Cl w0 w)(r:Ro Wg C n B Cl w w₁):CF Wg C n B Cl w0 w₁:=⟨h.bs.rely r,h.ex.rely r⟩
structure CG(Wg C n B:Nat)(Cl:Nat->Prop)(w0:World)(N:Nat)(cur:List Nat)(w:World):Prop where
 bs:Bs C B w
 ex:Ex Wg C n B Cl (λ_=>False) w0 w
 lo:w0.heap.size<=N
 mn:Mine w N
 hx:w.heap[N]?=some (.cells (sD cur) 5)
omit [qN]in
theorem CG.rely{w0 w w₁:World}{N:Nat}{cur:List Nat}(h:CG Wg C n B Cl w0 N cur w)(r:Ro Wg C n B Cl w w₁):CG Wg C n B Cl w0 N cur w₁:=⟨h.bs.rely r,h.ex.rely r,h.lo,(r.wQ _).2 h.mn,(r.mine _ h.mn).trans h.hx⟩
omit [qN]in
theorem CF.alloc{w0 w:World}(h:CF Wg C n B Cl w0 w)(L:Nat):CG Wg C n B Cl w0 w.heap.size (List.replicate L 0) (w.alloc (.cells (madeCells #[.int .u8 0] L) 5)):=
 ⟨h.bs.alloc _,O_ h.ex h.bs _,h.ex.size,yj (w:=w) (w':=w.alloc _) rfl h.bs.tg (ak _) gI,by rw[BG,adm]⟩
omit [qN]in
theorem CG.back{w0 w w₁:World}(h0:Bs C B w0){N:Nat}{cur:List Nat}(h:CG Wg C n B Cl w0 N cur w)(r:Ex Wg C n B Cl (· =N) w w₁):Ex Wg C n B Cl (λ_=>False) w0 w₁:=
 ⟨aK h.ex.size r.size,r.tape.trans h.ex.tape,r.os.trans h.ex.os,r.tag∘h.ex.tag,λb x=>r.own b (h.ex.own b x),λb x y=>(r.mine b (h.ex.own b x) (λe=>by have:=h0.lt x;have:=h.lo;omega)).trans (h.ex.mine b x y),
  λb x y z=>(r.low b x y z).trans (h.ex.low b x y z),λi x=>(r.cell i x).trans (h.ex.cell i x),r.pay∘h.ex.pay⟩
def BZ(ws:List Nat)(cs:List Ph):List (Nat×List Nat):=ws.zip (cs.map (·.ys))
def CI(Wg C n B:Nat)(Cl:Nat->Prop)(w0:World)(bw ow cw bc oc cc L k N:Nat)(ws:List Nat)(cs:List Ph)(a:Act)(w:World):Prop:=
 ∃(j:Nat)(v2 v3 v4 v6 v7 v8 v9 v10 v11 v12 v16 v17 v18 v19 v20 v21 v22 v23 v24 v25 v26 v27 v28:Value),j<=k/\CG Wg C n B Cl w0 N (comb ((BZ ws cs).take j) (List.replicate L 0)) w/\a={tmps:=#[.slice (some ⟨bw,ow,none⟩) k cw,.slice (some ⟨bc,oc,none⟩) k cc,v2,v3,v4,.slice (some ⟨N,0,none⟩) L L,v6,v7,v8,v9,v10,v11,v12,.slice (some ⟨bc,oc,none⟩) k cc,.int .i64 ((k:Nat):Int),.int .i64 ((j:Nat):Int),v16,v17,v18,v19,v20,v21,v22,v23,v24,v25,v26,v27,v28],defers:=[]}
def muC(k:Nat)(a:Act)(_:World):Nat:=match a.tmps.getD 15 undef with| .int _ j=>k-j.toNat|_=>0
omit [Payload][qN]in
theorem OI:(Tryz.prog.info? 5).map (λi=>(i.zero,i.size,i.bytes))=some (some (.int .u8 0),1,1):=ag
theorem SX(k L:Nat)(hk0:0<k)(hk:k<=128)(hL:L<=140737488355328):∃q,∀(w:World)(bw ow cw bc oc cc:Nat)(ws:List Nat)(cs:List Ph),AL ws k->cs.length=k->(∀x∈ws,x<256)->(∀c∈cs,AL c.ys L/\∀y∈c.ys,y<256)->Bs C B w->CIn Wg C B bw ow bc oc L ws cs w->
  CallsC Tryz.prog main (Ro Wg C n B Cl) (Dg Wg C n B Cl) 51 #[.slice (some ⟨bw,ow,none⟩) k cw,.slice (some ⟨bc,oc,none⟩) k cc] q w λv w'=>∃N,v=.slice (some ⟨N,0,none⟩) L L/\CG Wg C n B Cl w N (comb (BZ ws cs) (List.replicate L 0)) w':=by
 obtain⟨qa,ha⟩:=aaE (main:=main) (Wg:=Wg) (C:=C) (n:=n) (B:=B) (Cl:=Cl) L;obtain⟨i0,hi,hz0,hz1,hz2⟩:=bg OI
 have hmk:∀w:World,(Instr.makeSlice 34 (.int .i64 (L:Int)) (.int .i64 (L:Int))).run Tryz.prog w=.ok (.slice (some ⟨w.heap.size,0,none⟩) L L) (w.alloc (.cells (madeCells #[.int .u8 0] L) 5)):=λw=>by exact aqV
 have hme:∀(w:World)(es:Array Event),(Instr.makeSlice 34 (.int .i64 (L:Int)) (.int .i64 (L:Int))).events Tryz.prog w es=es:=λw es=>
  events_make (P:=Tryz.prog) w 34 5 i0 (.int .u8 0) Tryz.underlying34 hi hz0 .i64 .i64 (L:Int) (L:Int) ae ae fO ae aox es
 clear hi hz0 hz1 hz2;co_apply Exists.intro;intro w bw ow cw bc oc cc ws cs hlw hlc hws hcs hb hin;co_apply callsC_of_wpC Tryz.func51 ax rfl;simp only[Tryz.ntmps51,dU,bM,dA,Nat.reduceAdd,Nat.reduceSub,cu,b_,bV,bY,bf,aW];have hF:CF Wg C n B Cl w w:=⟨hb,.refl w⟩;have hkI:(0:Int)<(k:Int):=ae;obtain⟨c0,hc0⟩:∃c,cs[0]?=some c:=⟨cs[0]' ae,ai⟩;co_apply aZ p_;co_reg p_;co_op CF.rely hF (co_quiet p_);co_apply aX p_;co_then;co_apply aZ p_;co_reg p_;co_op CF.rely hF (co_quiet p_)
 co_opw CF.rely hF (skip) (co_still p_)
 co_opw CF.rely hF (have hc:=(hin.ex hF.ex).hc 0 c0 hc0;simp only[fG]at hc) (refine su (hin.ex hF.ex).rc (hin.ex hF.ex).lc ?_;co_evs (exact⟨_,rfl,rfl⟩))
 clear hc;co_op CF.rely hF (co_quiet p_)
 co_opw CF.rely hF (skip) (rw[listed_nil jO];exact xP hF.bs.hC _ rfl)
 replace hF:=hF.alloc L;generalize hN:Array.size (World.heap _)=N at hF⊢;clear hN;co_op CG.rely hF (co_quiet p_);co_apply aX p_;co_then;co_apply aZ p_;co_apply aZ p_;co_reg p_;co_op CG.rely hF (co_quiet p_);co_op CG.rely hF (co_quiet p_);co_op CG.rely hF (co_quiet p_);co_apply aX p_;co_then;co_apply jS p_;co_apply jw p_ (CI Wg C n B Cl w bw ow cw bc oc cc L k N ws cs) (muC k) _ k
 .exact⟨0,_,_,_,_,_,_,_,_,_,_,_,_,_,_,_,_,_,_,_,_,_,_,_,gV _,hF,rfl⟩
 .simp[muC]
 rintro a w' ⟨j,v2,v3,v4,v6,v7,v8,v9,v10,v11,v12,v16,v17,v18,v19,v20,v21,v22,v23,v24,v25,v26,v27,v28,hj,hF,rfl⟩;co_apply aZ p_;co_reg p_;co_op CG.rely hF (co_quiet p_);co_apply aX p_;co_then;co_apply aZ p_
 co_split p_ (decide ((j:Int)<(k:Int)))
 .intro hjl;have adM:j<k:=aoM;have hjI:(j:Int)<(k:Int):=ae;clear hjl;obtain⟨c,hcj⟩:∃c,cs[j]?=some c:=⟨cs[j]' ae,ai⟩;obtain⟨x,hxj⟩:∃x,ws[j]?=some x:=⟨ws[j]'(by rw[show ws.length=k from hlw];omega),ai⟩;have hx256:x<256:=hws x (iy hxj);have hcm:=iy hcj;obtain⟨hly,hys⟩:=hcs c hcm
  co_ctl p_
  co_then;co_apply aZ p_;co_apply jS p_;co_apply aZ p_;co_reg p_;co_op CG.rely hF (co_quiet p_)
  co_opw CG.rely hF (skip) (co_still p_)
  co_opw CG.rely hF (have hc:=(hin.ex hF.ex).hc j c hcj) (refine su (hin.ex hF.ex).rc (hin.ex hF.ex).lc ?_;co_evs (exact⟨_,rfl,rfl⟩))
  clear hc;co_op CG.rely hF (co_quiet p_);co_op CG.rely hF (co_quiet p_);co_apply aX p_;co_then;co_reg p_;co_op CG.rely hF (co_quiet p_);co_op CG.rely hF (co_quiet p_);co_op CG.rely hF (co_quiet p_)
  co_opw CG.rely hF (skip) (co_still p_)
  co_opw CG.rely hF (have hc:=(hin.ex hF.ex).hw j x hxj) (refine su (hin.ex hF.ex).rw (hin.ex hF.ex).lw ?_;co_evs (exact⟨_,rfl,rfl⟩))
  clear hc;co_op CG.rely hF (co_quiet p_);have wF:=(hin.ex hF.ex).wF c hcm;have hN1:=hF.lo;have OH:=hb.hC;have hN3:=hb.hB;have hN4:=(hin.wF c hcm).2.1
  have hAF:∀w1,CG Wg C n B Cl w N (comb ((BZ ws cs).take j) (List.replicate L 0)) w1->AF Wg C n B Cl w1 N (comb ((BZ ws cs).take j) (List.replicate L 0)) c.bo c.oo c.ys w1:=λw1 h1=>
   ⟨h1.bs,.refl _,h1.mn,ae,ae,((hin.ex h1.ex).wF c hcm).1,((hin.ex h1.ex).wF c hcm).2.1,ae,h1.hx,((hin.ex h1.ex).wF c hcm).2.2.2⟩
  have al3:∀z∈(BZ ws cs).take j,z.1<256/\∀y∈z.2,y<256:=by intro z hz;have hz:=ao1 hz;have h1:=List.of_mem_zip hz;refine⟨hws _ h1.1,?_⟩;obtain⟨c',hc',e⟩:=eX.1 h1.2;rw[<-e];exact(hcs c' hc').2
  co_apply opsC_call p_ rfl ax rfl
  .walk_nrm;exact ha _ c.bs N L L c.bo c.oo c.co x _ c.ys (hin.wF c hcm).2.2.1 hx256 (aby _ _ al3 (by intro x hx;rw[List.mem_replicate]at hx;omega)) hys (by show List.length _=L;rw[z_];simp) (ak _) hly (by simp[maxLen];omega) (hAF _ hF)
  rintro v w' ⟨rfl,haf⟩
  have hsn:(BZ ws cs).take (j+1)=(BZ ws cs).take j++[(x,c.ys)]:=by
   rw[List.take_add_one]
   congr 1
   simp[BZ,List.getElem?_zip_eq_some,hxj,hcj]
  replace hF:CG Wg C n B Cl w N (comb ((BZ ws cs).take (j+1)) (List.replicate L 0)) w':=⟨haf.bs,hF.back hb haf.ex,hF.lo,haf.ml,by rw[hsn,MW];exact haf.hx⟩;clear haf hAF;walk_nrm;co_apply aX p_;co_then;co_reg p_;co_op CG.rely hF (co_quiet p_);co_op CG.rely hF (co_quiet p_);co_apply aX p_;co_then;have hw1:IntKind.i64.wrap ((j:Int)+1)=((j+1:Nat):Int):=fD;simp only[hw1];refine⟨⟨j+1,_,_,_,_,_,_,_,_,_,_,_,_,_,_,_,_,_,_,_,_,_,_,_,ae,hF,rfl⟩,?_⟩;simp[muC];omega
 .intro hjl;have hjk:j=k:=aoN;have hall:(BZ ws cs).take j=BZ ws cs:=iJ (by simp[BZ];omega);rw[hall]at hF
  co_ctl p_
  co_then;co_apply aZ p_;co_reg p_;co_op CG.rely hF (co_quiet p_);co_op CG.rely hF (co_quiet p_);co_apply aX p_;co_then;co_apply wpC_ret p_;exact aql
end
end Go.Proofs.Y
namespace Go.Lf
open Go.Conc
def VN:Obj->Bool
 | .view a _=>!a.spot.isSome
 | .pending ..=>true
 |_=>false
def shut:Obj->Obj
 | .view _ t=>.view ⟨0,0,some default⟩ t
 | .pending ..=>.stringIter .empty 0
 |o=>o
def aku:Obj->Obj
 | .cells _ t fr=>.cells #[] t fr
 |o=>o
theorem aik{o:Obj}(h:VN o=false):uT o:=by cases o<;>first|trivial|(simp[VN]at h;exact h)|cases h
theorem YB{o:Obj}(h:VN o=true):J9 o (shut o):=by cases o<;>first|exact .inl ⟨_,_,rfl,rfl⟩|exact .inr ⟨_,_,rfl,rfl⟩|cases h
end Go.Lf
namespace Go.Proofs.Y
theorem WG(n:Nat)(f:Nat->F):F.sum (List.range (n+1)) f=F.add (F.sum (List.range n) f) (f n):=by
 have key:∀(l:List Nat)(x:Nat),F.sum (l++[x]) f=F.add (F.sum l f) (f x):=λl x=>by
  induction l with
  |nil=>simp only[bf,F.sum];rw[F.add_zero,F.zero_add]
  |cons y l ih=>simp only[aW,F.sum,ih,F.add_assoc]
 rw[dm,key]
theorem PN(w:Nat->Nat)(c:Nat->List Nat)(L m:Nat)(hm:m<L)(hc:∀j,(c j).length=L):∀n:Nat,
  (comb ((List.range n).map λj=>(w j,c j)) (List.replicate L 0)).getD m 0=Nat.rec (motive:=λ_=>Nat) 0 (λj r=>r^^^mul ((c j).getD m 0) (w j)) n
 |0=>by show(List.replicate L 0).getD m 0=0;simp[hm]
 |n+1=>by
  rw[dm,iC];simp only[fH,jd];rw[MW];have hl:(comb ((List.range n).map λj=>(w j,c j)) (List.replicate L 0)).length=L:=by rw[z_];simp
  have ih:=PN w c L m hm hc n
  have key:∀(f:Nat)(xs ys:List Nat)(m:Nat),m<xs.length->m<ys.length->(zi f xs ys).getD m 0=xs.getD m 0^^^mul (ys.getD m 0) f:=by
   intro f xs
   induction xs with
   |nil=>intro ys m h;simp at h
   |cons x xs ihx=>
    intro ys m h h';cases ys with
    |nil=>simp at h'
    |cons y ys=>
     cases m with
     |zero=>simp[zi]
     |succ m=>
      simp only[zi,List.getD_cons_succ];exact ihx ys m oq (by simpa using h')
  rw[key _ _ _ m (by rw[hl];exact hm) (by rw[hc];exact hm),ih]
theorem aaW(K:Nat)(R X:Nat->F):∀n,Nat.rec (motive:=λ_=>Nat) 0 (λj r=>r^^^mul (X j).val (R j).val) n=(F.sum (List.range n) λj=>F.mu (R j) (X j)).val
 |0=>rfl
 |n+1=>by rw[WG];show _^^^_=(F.sum (List.range n) λj=>F.mu (R j) (X j)).val^^^(F.mu (R n) (X n)).val;rw[<-aaW K R X n,F.xn];rfl
end Go.Proofs.Y
namespace Go.Lf
open Go.Conc Go.Gh Go.RowKit
open Classical
noncomputable def Jp(X:Nat->Prop)(b:Nat)(o:Obj):Obj:=if X b then aku o else if VN o then shut o else o
theorem OJ(w:World)(X:Nat->Prop)(h:∀b,X b->∃cs t,w.heap[b]?=some (.cells cs t (0,0))):
  ∃(Y:Nat->Option Obj)(v:World),vY X Y w v/\(∀b c t fr,¬X b->w.heap[b]?=some (.cells c t fr)->v.heap[b]?=some (.cells c t fr)):=by
 let Y:Nat->Option Obj:=λb=>if X b then none else(w.heap[b]?).bind λo=>if VN o then some o else none
 have hget:∀b,(w.heap.mapIdx (Jp X))[b]?=(w.heap[b]?).map (Jp X b):=λb=>ai
 have hY:∀b o,Y b=some o->¬X b/\w.heap[b]?=some o/\VN o=true:=λb o hy=>by
  simp only[Y]at hy;split at hy
  .cases hy
  .rename_i hne;cases hb:w.heap[b]? with
   |none=>rw[hb]at hy;cases hy
   |some o'=>
    rw[hb]at hy;simp only[eQ]at hy;split at hy
    .rename_i hg;cases hy;exact⟨hne,rfl,hg⟩
    .cases hy
 refine⟨Y,{w with heap:=w.heap.mapIdx (Jp X)},⟨ai,λb hb=>?_,λb hx hy=>?_,λb o hy=>?_,λb hx=>?_,λb o hb=>?_,rfl,rfl,λ_ _=>rfl,λb cs t fr hx hb=>?_⟩,λb c t fr hx hb=>?_⟩
 .rcases hb with hb|hb
  .obtain⟨cs,t,hc⟩:=h b hb;simpa using(a_.1 hc).1
  .obtain⟨o,ho⟩:=aoR.1 hb;simpa using(a_.1 (hY b o ho).2.1).1
 .show w.heap[b]?=(w.heap.mapIdx (Jp X))[b]?;rw[hget];cases hb:w.heap[b]? with
  |none=>rfl
  |some o=>
   simp only[Y,ah hx,hb,eQ]at hy
   have hg:VN o=false:=by
    cases hg:VN o with
    |false=>rfl
    |true=>rw[hg]at hy;cases hy
   simp only[dK,Jp,ah hx,hg,bF,aU]
 .obtain⟨h1,h2,h3⟩:=hY b o hy;refine⟨shut o,h2,?_,YB h3⟩;show(w.heap.mapIdx (Jp X))[b]?=_;rw[hget,h2];simp only[dK,Jp,ah h1,h3,aF]
 .obtain⟨cs,t,hc⟩:=h b hx;refine⟨cs,t,(0,0),hc,?_⟩;show(w.heap.mapIdx (Jp X))[b]?=_;rw[hget,hc];simp only[dK,Jp,aj hx,aku]
 .change(w.heap.mapIdx (Jp X))[b]?=some o at hb;rw[hget]at hb;obtain⟨o',h1,rfl⟩:=bU.1 hb;unfold Jp;split
  .rename_i hx;obtain⟨cs,t,hc⟩:=h b hx;rw[h1]at hc;cases hc;trivial
  .split
   .rename_i hg;exact(YB hg).nv
   .rename_i hg;exact aik (by simpa using hg)
 .change(w.heap.mapIdx (Jp X))[b]?=_ at hb;obtain⟨cs',t',hc⟩:=h b hx;rw[hget,hc]at hb;simp only[dK,Jp,aj hx,aku,fV,Obj.cells.injEq]at hb;exact hb.2.2.symm
 .show(w.heap.mapIdx (Jp X))[b]?=_;rw[hget,hb];simp only[dK,Jp,ah hx,VN,bF,aU]
theorem UO{X:Nat->Prop}{Shun:Loc->Prop}(h:∀l,Shun l->∃a:Addr,l=.cell a/\X a.block):uo X (DM Shun):=by
 intro n w es hs hev;refine⟨hs,λe he=>?_⟩;rcases hev e he with⟨a,wr,rfl,h2,h3⟩|⟨r,wr,sy,rfl,_,_⟩|⟨m0,hm0,rfl⟩
 .refine⟨⟨λx hx hsh=>?_,ai,ai⟩,λx hx ad ead=>?_⟩
  .simp only[MemAct.ofEvent,MemAct.touch?,fV]at hx;subst hx;obtain⟨a',h4,h5⟩:=h _ hsh;cases h4;exact absurd h5 h3
  .simp only[MemAct.ofEvent,MemAct.touch?,fV]at hx;subst hx;cases ead;exact h2
 .have no:∀x,(MemAct.ofEvent ⟨.obj r,wr,sy⟩).touch?=some x->∀a:Addr,x.loc≠.cell a:=λx hx a e=>by
   cases wr<;>cases sy<;>simp only[MemAct.ofEvent,MemAct.touch?,fV,reduceCtorEq]at hx<;>(subst hx;cases e)
  exact⟨⟨λx hx hsh=>by obtain⟨a',h4,_⟩:=h _ hsh;exact absurd h4 (no x hx a'),ai,ai⟩,λx hx ad ead=>absurd ead (no x hx ad)⟩
 .rcases hm0 with rfl|⟨_,rfl⟩<;>exact⟨⟨λx hx=>apk,ai,ai⟩,λx hx=>apk⟩
def rJ(B:Nat)(w w':World):Prop:=Below B {w with tape:=w'.tape} w'
theorem rJ.of{B:Nat}{w w':World}(h:Below B w w'):rJ B w w':=⟨h.os,rfl,h.output,h.size,h.block⟩
theorem rJ.refl(B:Nat)(w:World):rJ B w w:=rJ.of (aA B w)
theorem rJ.tp{B:Nat}{w w':World}(h:rJ B w w')(τ:Nat->Question->Nat)(d:Nat):rJ B w {w' with tape:=τ,drawn:=d}:=⟨h.os,rfl,h.output,h.size,h.block⟩
theorem rJ.trans{B B':Nat}{w w' w'':World}(h:rJ B w w')(h':rJ B' w' w'')(hB:B<=B'):rJ B w w'':=⟨h'.os.trans h.os,rfl,h'.output.trans h.output,aK h.size h'.size,λk hk=>(h'.block k (aN hk hB)).trans (h.block k hk)⟩
theorem rJ.size'{B:Nat}{w w':World}(h:rJ B w w'):w.heap.size<=w'.heap.size:=h.size
theorem rJ.blk{B:Nat}{w w':World}(h:rJ B w w'){k:Nat}(hk:k<B):w'.heap[k]?=w.heap[k]?:=h.block k hk
theorem rJ.mono{B B':Nat}{w w':World}(h:rJ B w w')(hB:B'<=B):rJ B' w w':=⟨h.os,rfl,h.output,h.size,λk hk=>h.block k (aN hk hB)⟩

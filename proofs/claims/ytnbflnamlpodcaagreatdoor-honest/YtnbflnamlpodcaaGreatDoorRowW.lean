import Derived.Test.YtnbflnamlpodcaaGreatDoorCoG
import Derived.WalkSpells
import Derived.WalkLawsBesides
import Derived.Deep.OwnRows
set_option maxHeartbeats 1000000
set_option maxRecDepth 100000
namespace Go.Proofs.Y
open Go.Proofs.Tryz
open Go.RowKit
theorem Uw{k:IntKind}{a b:Int}(h:a=b):Ending.returned (.int k a)=.returned (.int k b):=jP
theorem aob{a:Nat}(h:128<=a):bits .xor .u8 ((a:Int)*2%256) 29=((tx a:Nat):Int):=by have e:((a:Int)*2%256)=((a*2%256:Nat):Int):=ag;rw[e,show(29:Int)=((29:Nat):Int)from rfl,u8_xor_nat _ _ ag ag,tx,ay h,gu]
theorem aoc{a:Nat}(h:¬128<=a):(a:Int)*2=((tx a:Nat):Int):=by rw[tx,au h];omega
theorem V8(a:Nat)(ha:a<256)(w:ah):
  Calls prog 128 #[.int .u8 (a:Int)] w λe w'=>e=.returned (.int .u8 (tx a:Nat))/\w'=w:=by
 by_cases h:128<=a
 .go_enter func128,ntmps128;go_wp2;go_ret;exact⟨Uw (aob h),rfl⟩
 .go_enter func128,ntmps128;go_wp2;go_ret;exact⟨Uw (aoc h),rfl⟩
theorem aeG{x y:Int}(h:x=y):Value.int .u8 x=Value.int .u8 y:=jP
theorem ae9(y:Nat)(hy:y<256):bits .and .u8 (y:Int) 1=((y%2:Nat):Int):=by rw[show(1:Int)=((1:Nat):Int)from rfl,u8_and_nat _ _ hy ag,Nat.and_one_is_mod]
theorem aaZ{x y:Nat}(hx:x<256)(hy:y<256):bits .xor .u8 (x:Int) (y:Int)=((x^^^y:Nat):Int):=u8_xor_nat _ _ hx hy
theorem Qx{k p x y m:Nat}(hk:k<8)(H:FH (8-k) p x y=m):
  FH (8-(k+1)) (if y%2=1 then p^^^x else p) (tx x) (y/2)=m:=by
 obtain⟨n,hn⟩:∃n,8-k=n+1:=⟨8-k-1,ag⟩;have e:8-(k+1)=n:=ag;rw[e];rw[hn,FH]at H;exact H
theorem anR(a b:Nat)(ha:a<256)(hb:b<256)(w:ah):
  Calls prog 119 #[.int .u8 (a:Int),.int .u8 (b:Int)] w λe w'=>e=.returned (.int .u8 (mul a b:Nat))/\w'=w:=by
 go_enter func119,ntmps119;go_wp2
 go_loop [0,1,5,6] (λva vb vp vi=>∃k p x y:Nat,k<=8/\p<256/\x<256/\y<256/\va=.int .u8 (x:Int)/\vb=.int .u8 (y:Int)/\vp=.int .u8 (p:Int)/\vi=.int .i64 (k:Int)/\Hid (FH (8-k) p x y=mul a b)) (λ_ _ _ i=>8-(intOf i).toNat)
 case atStart=>exact⟨0,0,a,b,ag,ag,ha,hb,rfl,rfl,rfl,rfl,rfl⟩
 case round=>
  obtain⟨k,p,x,y,hk,hp,hx,hy,rfl,rfl,rfl,rfl,H⟩:=hrel;by_cases qK:k<8
  .have hand:=ae9 y hy
   go_wp2_with(first|(go_at_call 128;refine(V8 _ iy _).mono ?_;rintro e w' ⟨rfl,rfl⟩))
   .have h1:((y:Int)%2==1)=true:=iy;have h2:y%2=1:=avh;have G:=Qx qK H.out;rw[ay h2]at G
    go_round
    case rel=>exact⟨k+1,p^^^x,tx x,y/2,ag,Dx hp hx,ML hx,ag,rfl,aeG ag,aeG (aaZ hp hx),bU,G⟩
    case measure=>simp[intOf];omega
   .have h1:((y:Int)%2==1)=false:=iy;have h2:¬y%2=1:=avh;have G:=Qx qK H.out;rw[au h2]at G
    go_round
    case rel=>exact⟨k+1,p,tx x,y/2,ag,hp,ML hx,ag,rfl,aeG ag,rfl,bU,G⟩
    case measure=>simp[intOf];omega
  .have e:k=8:=ag;subst e;have G:p=mul a b:=H.out;have HG:Hid (p=mul a b):=G;clear G H;go_wp2;go_ret;exact⟨Uw oG,rfl⟩
theorem Ya{k p v m:Nat}(hk:k<7)(H:ado (7-k) p v=m):ado (7-(k+1)) (mul p p) (mul v (mul p p))=m:=by obtain⟨n,hn⟩:∃n,7-k=n+1:=⟨7-k-1,ag⟩;have e:7-(k+1)=n:=ag;rw[e];rw[hn,ado]at H;exact H
theorem afR(a:Nat)(ha:a<256)(w:ah):
  Calls prog 93 #[.int .u8 (a:Int)] w λe w'=>e=.returned (.int .u8 (inv a:Nat))/\w'=w:=by
 go_enter func93,ntmps93;go_wp2
 go_loop [3,4,6] (λvp vv vi=>∃k p v:Nat,k<=7/\p<256/\v<256/\vp=.int .u8 (p:Int)/\vv=.int .u8 (v:Int)/\vi=.int .i64 (k:Int)/\Hid (ado (7-k) p v=inv a)) (λ_ _ i=>7-(intOf i).toNat)
 case atStart=>exact⟨0,a,1,ag,ha,ag,rfl,rfl,rfl,rfl⟩
 case round=>
  obtain⟨k,p,v,hk,hp,hv,rfl,rfl,rfl,H⟩:=hrel;by_cases qK:k<7
  .have hpp:mul p p<256:=mul_lt hp
   go_wp2_with(first|(go_at_call 119;refine(anR _ _ iy iy _).mono ?_;rintro e w' ⟨rfl,rfl⟩))
   go_round
   case rel=>exact⟨k+1,mul p p,mul v (mul p p),ag,mul_lt hp,mul_lt hv,rfl,rfl,bU,Ya qK H.out⟩
   case measure=>simp[intOf];omega
  .have e:k=7:=ag;subst e;have HG:Hid (v=inv a):=H.out;clear H;go_wp2;go_ret;exact⟨Uw oG,rfl⟩
end Go.Proofs.Y
namespace Go.Proofs.Y
open Go.Proofs.Tryz
open Go.Conc Go.RowKit Go.Gh
open Go.ConcR (Payload)
section
variable {main:Bool}{R:ah->ah->Prop}{D:ah->ah->aH->Prop}
theorem aaY(T:Terms R D):∃n,∀(a:Nat)(w:ah),a<256->CallsC prog main R D 128 #[.int .u8 (a:Int)] n w λv w'=>v=.int .u8 (tx a:Nat)/\Since R w w':=by
 co_apply Exists.intro;intro a w ha;co_apply callsC_of_wpC func128 aI rfl;have hF:Since R w w:=.refl w;simp only[ntmps128,fU,dJ,dY,Nat.reduceAdd,Nat.reduceSub,dR,dQ,dM,dP,dA,bT]
 co_go T (Since.rely T) hF (co_quiet T)
 co_split T (decide ((128:Int)<=(a:Int)))
 .intro hx;have hx':128<=a:=by have:=iZ hx;omega
  co_go T (Since.rely T) hF (co_quiet T)
  refine⟨rfl,_,resultsC_tmp aI _,?_,hF⟩;have e:IntKind.u8.wrap ((a:Int)*2)=(a:Int)*2%256:=by rw[av2]
  simp only[mg,pz,jD,jB,aQ];rw[e,aob hx']
 .intro hx;have hx':¬128<=a:=by have:=jr hx;omega
  co_go T (Since.rely T) hF (co_quiet T)
  refine⟨rfl,_,resultsC_tmp aI _,?_,hF⟩;have e:IntKind.u8.wrap ((a:Int)*2)=(a:Int)*2:=by rw[av2];omega
  simp only[mg,pz,jD,jB,aQ];rw[e,aoc hx']
end
def zX(f m:Nat):aB:=Array.ofFn (λx:Fin 256=>.int .u8 ((if x.val<m then mul x.val f else 0:Nat):Int))
theorem Es(f:Nat):Tryz.zeroCells209=zX f 0:=by have e:Tryz.zeroCells209=Array.replicate 256 (.int .u8 0):=aj;rw[e];apply mi;intro i;by_cases h:i<256<;>simp[zX,h]
theorem CY(f m x:Nat)(hx:x<256):(zX f m)[x]?=some (.int .u8 ((if x<m then mul x f else 0:Nat):Int)):=by simp[zX,hx]
theorem PV(f m:Nat):(zX f m).setIfInBounds m (.int .u8 ((mul m f:Nat):Int))=zX f (m+1):=by
 apply mi;intro i;rw[pW];simp only[zX,Array.size_ofFn,Array.getElem?_ofFn];by_cases h:m=i
 .subst h;simp
 .rw[au h];by_cases hi:i<256
  .simp only[hi,dite_true]
   congr 3
   by_cases h1:i<m
   .rw[ay h1,ay ag]
   .rw[au h1,au ag]
  .simp[hi]
theorem akT:∀(k:Fin 7)(f:Fin 256),tx (mul (2^k.val) f.val)=mul (2^(k.val+1)) f.val:=iM
theorem pow_add(k:Fin 8)(j f:Nat)(hj:j<2^k.val):mul (2^k.val+j) f=mul j f^^^mul (2^k.val) f:=by
 have hk:2^k.val<=128:=by have:∀k:Fin 8,2^k.val<=128:=aC;exact this k
 have e:2^k.val+j=j^^^2^k.val:=by
  have:=aw1 hj 1;simp only[je]at this;rw[this,jv];apply oZ;intro i;simp only[Nat.testBit_or,Nat.testBit_xor,Nat.testBit_two_pow];by_cases h1:k.val=i
  .subst h1;simp[Nat.testBit_lt_two_pow hj]
  .simp[h1]
 rw[e,xQ f ag ag]
theorem cell_of(w:ah){N:Nat}{c:aB}{t:aF}(h:w.heap[N]?=some (.cells c t))(i:Nat):w.cell? ⟨N,i,none⟩=c[i]?:=by simp[World.cell?,h]
theorem wK(w:ah){N:Nat}{c:aB}{t:aF}(h:w.heap[N]?=some (.cells c t))(i:Nat):w.frozen? ⟨N,i,none⟩=false:=by simp[World.frozen?,h]
theorem heap_set(w:ah){N:Nat}{c:aB}{t:aF}(h:w.heap[N]?=some (.cells c t))(i:Nat)(v:ai):(w.setCell ⟨N,i,none⟩ v).heap[N]?=some (.cells (c.setIfInBounds i v) t):=by simp[World.setCell,iJ,h]
section
variable [Payload][rq]{main:Bool}{Wg C n B:Nat}{Cl:Nat->Prop}
structure Bs(C B:Nat)(w:ah):Prop where
 tg:IV w<=w.heap.size
 hC:C<w.heap.size
 hB:B<=w.heap.size
 ow:∀b∈UI w,b<w.heap.size
omit [Payload][rq]in
theorem Bs.lt{w:ah}(h:Bs C B w){b:Nat}(hb:qZ w b):b<w.heap.size:=al0 h.ow hb
omit [rq]in
theorem Bs.rely{w w₁:ah}(h:Bs C B w)(r:Ro Wg C n B Cl w w₁):Bs C B w₁:=
 ⟨fQ r.tag,bG h.hC r.size,bu h.hB r.size,λb hb=>bG (h.lt ((r.own b).1 hb)) r.size⟩
omit [Payload][rq]in
theorem Bs.alloc{w:ah}(h:Bs C B w)(o:Obj):Bs C B (w.alloc o):=
 ⟨by rw[CZ (w:=w) (w':=w.alloc o) rfl,uS];have:=h.tg;omega,by rw[uS];have:=h.hC;omega,by rw[uS];have:=h.hB;omega,λb hb=>by rw[uS];have:=h.ow b hb;omega⟩
omit [Payload][rq]in
theorem Bs.set{w:ah}(h:Bs C B w)(a:Addr)(v:ai):Bs C B (w.setCell a v):=
 ⟨by rw[CZ (w:=w) (w':=w.setCell a v) rfl,t_];exact h.tg,by rw[t_];exact h.hC,by rw[t_];exact h.hB,λb hb=>by rw[t_];exact h.ow b hb⟩
structure PF(Wg C n B:Nat)(Cl:Nat->Prop)(w0:ah)(N2 N3 f m:Nat)(w:ah):Prop where
 bs:Bs C B w
 ex:Ex Wg C n B Cl (λ_=>False) w0 w
 lo2:w0.heap.size<=N2
 lo3:w0.heap.size<=N3
 ne:N2≠N3
 m2:qZ w N2
 m3:qZ w N3
 h2:w.heap[N2]?=some (.cells Tryz.zeroCells209 209)
 h3:w.heap[N3]?=some (.cells (zX f m) 209)
omit [rq]in
theorem PF.rely{w0 w w₁:ah}{N2 N3 f m:Nat}(h:PF Wg C n B Cl w0 N2 N3 f m w)(r:Ro Wg C n B Cl w w₁):PF Wg C n B Cl w0 N2 N3 f m w₁:=
 ⟨h.bs.rely r,h.ex.rely r,h.lo2,h.lo3,h.ne,(r.yL _).2 h.m2,(r.yL _).2 h.m3,(r.mine _ h.m2).trans h.h2,(r.mine _ h.m3).trans h.h3⟩
omit [rq]in
theorem aa0{w0 w:ah}{S:Nat->Prop}(h:Ex Wg C n B Cl S w0 w)(hb:Bs C B w0){a:Addr}(ha:w0.heap.size<=a.block)(v:ai):Ex Wg C n B Cl S w0 (w.setCell a v):=by
 have hC:=hb.hC;have hB:=hb.hB
 refine⟨by rw[t_];exact h.size,h.tape,h.os,λht=>by rw[CZ (w:=w) (w':=w.setCell a v) rfl,t_];exact h.tag ht,λb x=>sQ (w:=w) (w':=w.setCell a v) rfl eY (h.own b x),
  λb x y=>(dD _ _ _ _ (λe=>by have:=hb.lt x;omega)).trans (h.mine b x y),λb h1 h2 h3=>(dD _ _ _ _ (λe=>ag)).trans (h.low b h1 h2 h3),
  λi x=>(oK _ _ _ _ (λe=>by rw[e]at ha;dsimp only at ha;omega)).trans (h.cell i x),λp=>?_⟩
 obtain⟨cs,h1,h2⟩:=h.pay p;exact⟨cs,(dD _ _ _ _ ag).trans h1,h2⟩
omit [rq]in
theorem VR{w0 w:ah}{S:Nat->Prop}(h:Ex Wg C n B Cl S w0 w)(hb:Bs C B w)(o:Obj):Ex Wg C n B Cl S w0 (w.alloc o):=h.trans (Ex.alloc hb.hC hb.hB (λ_ x=>hb.lt x) o)
omit [rq]in
theorem PF.set{w0 w:ah}(h0:Bs C B w0){N2 N3 f m:Nat}(h:PF Wg C n B Cl w0 N2 N3 f m w):PF Wg C n B Cl w0 N2 N3 f (m+1) (w.setCell ⟨N3,m,none⟩ (.int .u8 ((mul m f:Nat):Int))):=
 ⟨h.bs.set _ _,aa0 h.ex h0 h.lo3 _,h.lo2,h.lo3,h.ne,sQ (w:=w) (w':=w.setCell _ _) rfl eY h.m2,sQ (w:=w) (w':=w.setCell _ _) rfl eY h.m3,
  (dD _ _ _ _ h.ne).trans h.h2,by rw[heap_set w h.h3,PV]⟩
def afS(k b:Nat):Prop:=b=2^k
def PO(Wg C n B:Nat)(Cl:Nat->Prop)(w0:ah)(N2 N3 f:Nat)(a:Act)(w:ah):Prop:=
 ∃(k b fa:Nat)(v1 v5 v6 v7 v8 v9 v10 v11 v12 Wx XR Qa Oh Ud Qk Ql v20 v21 v22 Ux v24 Qm v26:ai),k<=8/\afS k b/\(k<8->fa=mul b f)/\PF Wg C n B Cl w0 N2 N3 f b w/\a={tmps:=#[.int .u8 ((fa:Nat):Int),v1,.pointer (some ⟨N2,0,none⟩),.pointer (some ⟨N3,0,none⟩),.int .i64 ((b:Nat):Int),v5,v6,v7,v8,v9,v10,v11,v12,Wx,XR,Qa,Oh,Ud,Qk,Ql,v20,v21,v22,Ux,v24,Qm,v26],defers:=[]}
def PI(Wg C n B:Nat)(Cl:Nat->Prop)(w0:ah)(N2 N3 f b:Nat)(a:Act)(w:ah):Prop:=
 ∃(j:Nat)(v1 v5 v6 v7 v8 v9 v12 Wx XR Qa Oh Ud Qk Ql v20 v21 v22 Ux v24 Qm v26:ai),j<=b/\PF Wg C n B Cl w0 N2 N3 f (b+j) w/\a={tmps:=#[.int .u8 ((mul b f:Nat):Int),v1,.pointer (some ⟨N2,0,none⟩),.pointer (some ⟨N3,0,none⟩),.int .i64 ((b:Nat):Int),v5,v6,v7,v8,v9,.int .i64 ((b:Nat):Int),.int .i64 ((j:Nat):Int),v12,Wx,XR,Qa,Oh,Ud,Qk,Ql,v20,v21,v22,Ux,v24,Qm,v26],defers:=[]}
def muO(a:Act)(_:ah):Nat:=match a.tmps.getD 4 undef with| .int _ j=>256-j.toNat|_=>0
def muI(a:Act)(_:ah):Nat:=match a.tmps.getD 11 undef with| .int _ j=>256-j.toNat|_=>0
end
section
variable {P:aN}
theorem H8(a:Addr):∀(n i:Nat)(acc:aB)(w:ah)(es:aH),(∀j,j<n->∃v,w.cell? (a.add (i+j))=some v)->
  ∀e∈(loadCellsFrom a i n acc).events P w es,e∈es\/∃b:Addr,e=⟨.cell b,false,false⟩/\b.block=a.block
 |0,_,_,_,_,_=>λe h=>.inl (by simpa[loadCellsFrom]using h)
 |n+1,i,acc,w,es,hc=>λe h=>by
  obtain⟨u,hu⟩:=hc 0 ag;simp only[gy]at hu;have hr:(load (a.add i)).run P w=.ok u w:=by simp[hu]
  have he:(load (a.add i)).events P w es=es.push ⟨.cell (a.add i),false,false⟩:=by rw[events_load,hu];rfl
  simp only[loadCellsFrom,Sem.events_bind,hr,he]at h;rcases H8 a n (i+1) (acc.push u) w _ (λj hj=>by have:=hc (j+1) ag;rwa[show i+(j+1)=i+1+j by omega]at this) e h with h|h
  .rcases kV.1 h with h|rfl
   .exact .inl h
   .exact .inr ⟨_,rfl,by unfold Addr.add;split<;>rfl⟩
  .exact .inr h
theorem add_plain(N o i:Nat):(⟨N,o,none⟩:Addr).add i=⟨N,o+i,none⟩:=by simp[Addr.add]
theorem F_(N:Nat)(t:aF):∀(vs:aK)(i:Nat)(cur:aB)(w:ah)(es:aH),w.heap[N]?=some (.cells cur t)->i+vs.length<=cur.size->(∀v∈vs,v.oneCell'=true)->
  ∀e∈(storeCells ⟨N,0,none⟩ vs i).events P w es,e∈es\/∃b:Addr,e=⟨.cell b,true,false⟩/\b.block=N
 |[],_,_,_,_,_,_,_=>λe h=>.inl (by simpa[storeCells]using h)
 |v::rest,i,cur,w,es,hg,hl,h1=>λe h=>by
  have hi:i<cur.size:=by simp at hl;omega
  have hc:w.cell? ⟨N,i,none⟩=some cur[i]:=by rw[cell_of w hg];simp[hi]
  have hz:=wK w hg i;have hv:=h1 v ax;have ha:(⟨N,0,none⟩:Addr).add i=⟨N,i,none⟩:=by rw[add_plain,bM]
  have hr:(store ⟨N,i,none⟩ v).run P w=.ok () (w.setCell ⟨N,i,none⟩ v):=by cases v<;>first|(simp[Value.oneCell']at hv;done)|simp[store,Sem.run,hc,hz]
  have he:(store ⟨N,i,none⟩ v).events P w es=es.push ⟨.cell ⟨N,i,none⟩,true,false⟩:=by rw[events_store P w es _ _ _ hv,hc];simp[hz];rfl
  simp only[storeCells,Sem.events_bind,ha,hr,he]at h;rcases F_ N t rest (i+1) (cur.setIfInBounds i v) (w.setCell ⟨N,i,none⟩ v) _ (heap_set w hg i v) (by simp at hl⊢;omega) (λu hu=>h1 u (by simp[hu])) e h with h|h
  .rcases kV.1 h with h|rfl
   .exact .inl h
   .exact .inr ⟨_,rfl,rfl⟩
  .exact .inr h
variable {ρ:Operand->ai}{o:Oper}{t:aF}{x y:Operand}{N:Nat}{w w':ah}{v:ai}
theorem S_(ho:o.op=.load t x)(hx:ρ x=.pointer (some ⟨N,0,none⟩))(hl:(loadVar t ⟨N,0,none⟩).run P w=.ok v w):(execOp ρ o).run P w=.ok (.value v) w:=by simp[execOp,ho,hx,Instr.loadAt,Instr.sureAddr,hl]
theorem aeH(ho:o.op=.load t x)(hx:ρ x=.pointer (some ⟨N,0,none⟩)):(execOp ρ o).events P w #[]=(loadVar t ⟨N,0,none⟩).events P w #[]:=by simp[execOp,ho,hx,Instr.loadAt,Instr.sureAddr]
theorem OL(ho:o.op=.store t x y)(hx:ρ x=.pointer (some ⟨N,0,none⟩))(hy:ρ y=v)(hl:(storeVar t ⟨N,0,none⟩ v).run P w=.ok () w'):(execOp ρ o).run P w=.ok .skip w':=by simp[execOp,ho,hx,hy,Instr.storeAt,Instr.sureAddr,hl]
theorem RH(ho:o.op=.store t x y)(hx:ρ x=.pointer (some ⟨N,0,none⟩))(hy:ρ y=v):(execOp ρ o).events P w #[]=(storeVar t ⟨N,0,none⟩ v).events P w #[]:=by simp[execOp,ho,hx,hy,Instr.storeAt,Instr.sureAddr]
theorem Rl{fn:Func}{s:Tmp}{tmps:aB}(hr:fn.results=#[.cell s t])(hs:tmps.getD s undef=.pointer (some ⟨N,0,none⟩))(hl:(loadVar t ⟨N,0,none⟩).run P w=.ok v w):
  (results fn tmps).run P w=.ok v w/\(results fn tmps).events P w #[]=(loadVar t ⟨N,0,none⟩).events P w #[]:=by
 simp only[mg]at hs;constructor<;>simp[results,hr,hs,asAddr,hl]
end
section
theorem anw:(prog.info? 209).map (·.size)=some 256:=aj
theorem ash(w:ah)(es:aH):(isAgg 209).run prog w=.ok true w/\(isAgg 209).events prog w es=es:=by constructor<;>simp[isAgg]
theorem asi(w:ah)(es:aH):(sizeOf 209).run prog w=.ok 256 w/\(sizeOf 209).events prog w es=es:=by
 have h:=anw;cases hi:prog.info? 209 with
 |none=>rw[hi]at h;cases h
 |some i=>
  rw[hi]at h;simp only[fA,iE]at h;constructor<;>simp[sizeOf,typeInfo,hi,h]
theorem V9{w:ah}{N:Nat}{c:aB}(h:w.heap[N]?=some (.cells c 209))(hc:c.size=256):∀e∈(loadVar 209 ⟨N,0,none⟩).events prog w #[],∃b:Addr,e=⟨.cell b,false,false⟩/\b.block=N:=by
 intro e he;simp only[loadVar,Sem.events_bind,(ash w _).2,Result.evThen,loadCells]at he
 have hev:e∈(loadCellsFrom ⟨N,0,none⟩ 0 256 #[]).events prog w #[]:=by generalize(loadCellsFrom ⟨N,0,none⟩ 0 256 #[]).run prog w=r at he;cases r<;>simpa using he
 rcases H8 ⟨N,0,none⟩ 256 0 #[] w #[] (λj hj=>⟨c[j]' ag,by rw[add_plain,cell_of w h];simp[hc,hj]⟩) e hev with h|h
 .simp at h
 .exact h
theorem RJ{w:ah}{N:Nat}{c c':aB}(h:w.heap[N]?=some (.cells c 209))(hc:c.size=256)(hc':c'.size=256)(h1:∀v∈c',v.oneCell'=true):
  ∀e∈(storeVar 209 ⟨N,0,none⟩ (.agg c')).events prog w #[],∃b:Addr,e=⟨.cell b,true,false⟩/\b.block=N:=by
 intro e he;have hv:(Value.agg c').cells=c':=rfl;simp only[storeVar,Sem.events_bind,(asi w _).2,Result.evThen,hv,hc',ne_eq]at he;have hev:e∈(storeCells ⟨N,0,none⟩ c'.toList 0).events prog w #[]:=by simpa using he
 rcases F_ N 209 c'.toList 0 c w #[] h aS (λv hv=>h1 v (by simpa using hv)) e hev with h|h
 .simp at h
 .exact h
theorem KD{w:ah}{N:Nat}{c:aB}(h:w.heap[N]?=some (.cells c 209))(hc:c.size=256):(loadVar 209 ⟨N,0,none⟩).run prog w=.ok (.agg c) w:=
 avJ w N _ _ c (0,0) _ h underlying209 rfl (by rw[hc];exact anw)
theorem OJ{w:ah}{N:Nat}{c c':aB}(h:w.heap[N]?=some (.cells c 209))(hc:c.size=256)(hc':c'.size=256)(h1:∀v∈c',v.oneCell'=true):
  (storeVar 209 ⟨N,0,none⟩ (.agg c')).run prog w=.ok () (w.setRow N c'):=
 run_storeVar_row w N _ _ c c' h (by rw[hc'];exact anw) ag (mr.2 h1)
theorem OI{w:ah}{N:Nat}{c:aB}{t:aF}(c':aB)(h:w.heap[N]?=some (.cells c t)):(w.setRow N c').heap[N]?=some (.cells c' t):=by simp[World.setRow,iJ,h]
theorem um(w:ah){N b:Nat}(c':aB)(h:b≠N):(w.setRow N c').heap[b]?=w.heap[b]?:=by simp[World.setRow,iJ,dU h]
theorem xP(w:ah)(N:Nat)(c':aB):(w.setRow N c').heap.size=w.heap.size:=by simp[World.setRow]
end
section
variable [Payload][rq]{main:Bool}{Wg C n B:Nat}{Cl:Nat->Prop}
omit [Payload][rq]in
theorem Bs.row{w:ah}(h:Bs C B w)(N:Nat)(c':aB):Bs C B (w.setRow N c'):=
 ⟨by rw[CZ (w:=w) (w':=w.setRow N c') rfl,xP];exact h.tg,by rw[xP];exact h.hC,by rw[xP];exact h.hB,λb hb=>by rw[xP];exact h.ow b hb⟩
omit [Payload][rq]in
theorem AV(w:ah){N:Nat}(c':aB){a:Addr}(h:a.block≠N):(w.setRow N c').cell? a=w.cell? a:=by simp[World.cell?,um w c' h]
omit [rq]in
theorem adk{w0 w:ah}{S:Nat->Prop}(h:Ex Wg C n B Cl S w0 w)(hb:Bs C B w0){N:Nat}(ha:w0.heap.size<=N)(c':aB):Ex Wg C n B Cl S w0 (w.setRow N c'):=by
 have hC:=hb.hC;have hB:=hb.hB
 refine⟨by rw[xP];exact h.size,h.tape,h.os,λht=>by rw[CZ (w:=w) (w':=w.setRow N c') rfl,xP];exact h.tag ht,λb x=>sQ (w:=w) (w':=w.setRow N c') rfl iW (h.own b x),
  λb x y=>(um w c' (by have:=hb.lt x;omega)).trans (h.mine b x y),λb h1 h2 h3=>(um w c' ag).trans (h.low b h1 h2 h3),
  λi x=>(AV w c' (by dsimp only;omega)).trans (h.cell i x),λp=>?_⟩
 obtain⟨cs,h1,h2⟩:=h.pay p;exact⟨cs,(um w c' ag).trans h1,h2⟩
theorem aih{w:ah}{N:Nat}{c':aB}(hm:qZ w N)(hne:N≠C)(hb:N<w.heap.size){es:aH}(he:∀e∈es,∃b:Addr,e=⟨.cell b,true,false⟩/\b.block=N):Dg Wg C n B Cl w (w.setRow N c') es:=by refine⟨iW,rfl,rfl,λb _ I9 _=>um w c' (λe=>I9 (e▸hm)),λi _=>AV w c' (dU hne),λ⟨cs,h1,h2⟩=>⟨cs,(um w c' (dU hne)).trans h1,h2⟩,λe Ol=>?_⟩;obtain⟨b,rfl,WR⟩:=he e Ol;exact⟨b,true,rfl,iW,.inl (by rw[WR];exact hm)⟩
end
section
variable [Payload][rq]{main:Bool}{Wg C n B:Nat}{Cl:Nat->Prop}
structure P0(Wg C n B:Nat)(Cl:Nat->Prop)(w0 w:ah):Prop where
 bs:Bs C B w
 ex:Ex Wg C n B Cl (λ_=>False) w0 w
omit [rq]in
theorem P0.rely{w0 w w₁:ah}(h:P0 Wg C n B Cl w0 w)(r:Ro Wg C n B Cl w w₁):P0 Wg C n B Cl w0 w₁:=⟨h.bs.rely r,h.ex.rely r⟩
structure P1(Wg C n B:Nat)(Cl:Nat->Prop)(w0:ah)(N2:Nat)(w:ah):Prop where
 bs:Bs C B w
 ex:Ex Wg C n B Cl (λ_=>False) w0 w
 lo2:w0.heap.size<=N2
 m2:qZ w N2
 h2:w.heap[N2]?=some (.cells Tryz.zeroCells209 209)
omit [rq]in
theorem P1.rely{w0 w w₁:ah}{N2:Nat}(h:P1 Wg C n B Cl w0 N2 w)(r:Ro Wg C n B Cl w w₁):P1 Wg C n B Cl w0 N2 w₁:=⟨h.bs.rely r,h.ex.rely r,h.lo2,(r.yL _).2 h.m2,(r.mine _ h.m2).trans h.h2⟩
omit [Payload][rq]in
theorem EI(w:ah)(o:Obj):(w.alloc o).heap[w.heap.size]?=some o:=by show(w.heap.push o)[w.heap.size]?=some o;simp
omit [rq]in
theorem P0.alloc{w0 w:ah}(h:P0 Wg C n B Cl w0 w):P1 Wg C n B Cl w0 w.heap.size (w.alloc (.cells Tryz.zeroCells209 209)):=
 ⟨h.bs.alloc _,VR h.ex h.bs _,h.ex.size,zY (w:=w) (w':=w.alloc _) rfl h.bs.tg (az _) iL,EI w _⟩
omit [Payload][rq]in
theorem anx(f:Nat):zX f 0=zX f 1:=by
 have:=PV f 0;rw[<-this];apply mi;intro i;rw[pW];split
 .rename_i h;subst h;simp[zX,zero_mul]
 .rfl
omit [rq]in
theorem P1.alloc{w0 w:ah}{N2:Nat}(f:Nat)(h:P1 Wg C n B Cl w0 N2 w):PF Wg C n B Cl w0 N2 w.heap.size f 1 (w.alloc (.cells Tryz.zeroCells209 209)):=by
 have qK:=h.bs.lt h.m2
 refine⟨h.bs.alloc _,VR h.ex h.bs _,h.lo2,h.ex.size,ag,sQ (w:=w) (w':=w.alloc _) rfl iL h.m2,zY (w:=w) (w':=w.alloc _) rfl h.bs.tg (az _) iL,
  (dI _ _ _ qK).trans h.h2,?_⟩
 rw[EI,Es f,anx]
structure PE(Wg C n B:Nat)(Cl:Nat->Prop)(w0:ah)(N2 f:Nat)(w:ah):Prop where
 bs:Bs C B w
 ex:Ex Wg C n B Cl (λ_=>False) w0 w
 m2:qZ w N2
 h2:w.heap[N2]?=some (.cells (zX f 256) 209)
omit [rq]in
theorem PE.rely{w0 w w₁:ah}{N2 f:Nat}(h:PE Wg C n B Cl w0 N2 f w)(r:Ro Wg C n B Cl w w₁):PE Wg C n B Cl w0 N2 f w₁:=⟨h.bs.rely r,h.ex.rely r,(r.yL _).2 h.m2,(r.mine _ h.m2).trans h.h2⟩
omit [Payload][rq]in
theorem uP(f m:Nat):(zX f m).size=256:=by simp[zX]
omit [Payload][rq]in
theorem Js(f m:Nat):∀v∈zX f m,v.oneCell'=true:=by intro v hv;simp only[zX,Array.mem_ofFn]at hv;obtain⟨i,rfl⟩:=hv;rfl
omit [rq]in
theorem PF.ne0{w0 w:ah}(h0:Bs C B w0){N2 N3 f m:Nat}(h:PF Wg C n B Cl w0 N2 N3 f m w):N2≠C/\N3≠C:=by have:=h0.hC;have:=h.lo2;have:=h.lo3;omega
omit [rq]in
theorem PF.cell{w0 w:ah}{N2 N3 f m:Nat}(h:PF Wg C n B Cl w0 N2 N3 f m w){x:Nat}(hx:x<256)(hm:x<m):w.cell? ⟨N3,x,none⟩=some (.int .u8 ((mul x f:Nat):Int)):=by rw[cell_of _ h.h3,CY _ _ _ hx,ay hm]
omit [rq]in
theorem PF.cell0{w0 w:ah}{N2 N3 f m:Nat}(h:PF Wg C n B Cl w0 N2 N3 f m w)(hx:m<256):w.cell? ⟨N3,m,none⟩=some (.int .u8 0):=by rw[cell_of _ h.h3,CY _ _ _ hx,au ag];rfl
omit [rq]in
theorem PF.thaw{w0 w:ah}{N2 N3 f m:Nat}(h:PF Wg C n B Cl w0 N2 N3 f m w)(x:Nat):w.frozen? ⟨N3,x,none⟩=false:=wK _ h.h3 x
theorem adm:∃k,∀(f:Nat)(w:ah),f<256->Bs C B w->adr prog main (Ro Wg C n B Cl) (Dg Wg C n B Cl) 118 #[.int .u8 (f:Int)] k w λv w'=>v=.agg (zX f 256)/\Bs C B w'/\Ex Wg C n B Cl (λ_=>False) w w':=by
 obtain⟨kx,hx⟩:=aaY (main:=main) (qj (Wg:=Wg) (C:=C) (n:=n) (B:=B) (Cl:=Cl));co_apply Exists.intro;intro f w hf hb;co_apply WZ qj func118 aI rfl (Q:=λa' w'=>a'.defers=[]/\∃N2,a'.tmps.getD 2 undef=.pointer (some ⟨N2,0,none⟩)/\PE Wg C n B Cl w N2 f w')
 .rintro a' w' ⟨hd,N2,ht,hE⟩;refine⟨hd,λw₁ r=>?_⟩;replace hE:=hE.rely r;obtain⟨h1,h2⟩:=Rl (fn:=Tryz.f118) rfl ht (KD hE.h2 (uP f 256));refine⟨_,h1,?_,rfl,hE.bs,hE.ex⟩;rw[h2];exact ui (.inl hE.m2) (hE.bs.lt hE.m2) (λe he=>V9 hE.h2 (uP f 256) e (mem_seen he))
 have h0:=hb;simp only[ntmps118,fU,dJ,dY,Nat.reduceAdd,Nat.reduceSub,dR,dQ,dM,dP,dA,bT];have hF:P0 Wg C n B Cl w w:=⟨hb,.refl w⟩;co_apply bY qj;co_reg qj
 co_opw P0.rely hF (skip) (rw[listed_nil awl];exact zC hF.bs.hC _ rfl)
 replace hF:=hF.alloc;generalize Ui:Array.size (World.heap _)=N2 at hF⊢;clear Ui;co_apply bV qj;co_then;co_apply bY qj;co_reg qj
 co_opw P1.rely hF (skip) (rw[listed_nil awl];exact zC hF.bs.hC _ rfl)
 replace hF:=hF.alloc f;generalize hN3:Array.size (World.heap _)=N3 at hF⊢;clear hN3;co_apply bV qj;co_then;co_apply bY qj;co_apply bY qj;co_reg qj;co_op PF.rely hF (co_quiet qj);co_apply bV qj;co_then;co_apply lu qj;co_apply kJ qj (PO Wg C n B Cl w N2 N3 f) muO _ 255
 .exact⟨0,1,mul 1 f,_,_,_,_,_,_,_,_,_,_,_,_,_,_,_,_,_,_,_,_,_,_,_,ag,rfl,λ_=>rfl,hF,by rw[show mul 1 f=f from by rw[mul_comm ag hf,mul_one hf]];rfl⟩
 .simp[muO]
 .rintro a w' ⟨k,b,fa,v1,v5,v6,v7,v8,v9,v10,v11,v12,Wx,XR,Qa,Oh,Ud,Qk,Ql,v20,v21,v22,Ux,v24,Qm,v26,hk,Jk,hfa,hF,rfl⟩
  have hk8:b<=256:=by exact ay_
  have uu:1<=b:=axv
  co_go qj PF.rely hF (co_quiet qj)
  co_split qj (decide (((b:Nat):Int)<256))
  .intro qK;have Am:b<256:=awU;clear qK
   have hk7:k<8:=by
    rcases bJ k 8 with h|h
    .exact h
    .obtain rfl:k=8:=ag;have:b=256:=Jk;omega
   obtain rfl:fa=mul b f:=hfa hk7;have hmb:mul b f<256:=mul_lt ag
   co_go qj PF.rely hF (co_quiet qj)
   co_apply kJ qj (PI Wg C n B Cl w N2 N3 f b) muI _ 256
   .exact⟨0,_,_,_,_,_,_,_,_,_,_,_,_,_,_,_,_,_,_,_,_,_,gY _,hF,rfl⟩
   .simp[muI]
   .rintro a w' ⟨j,u1,u5,u6,u7,u8,u9,u12,u13,u14,u15,u16,u17,u18,u19,u20,u21,u22,u23,u24,u25,u26,hj,hF,rfl⟩
    co_go qj PF.rely hF (co_quiet qj)
    co_split qj (decide (((j:Nat):Int)<((b:Nat):Int)))
    .intro Oq;have aiu:j<b:=awV;clear Oq;have auJ:(j:Int)<256:=ag
     have asj:b+j<256:=by have:∀k:Fin 8,2^k.val+2^k.val<=256:=aC;have:=this ⟨k,hk7⟩;exact azf
     have yE:(b:Int)+(j:Int)<256:=ag;have Ou:0<=(b:Int)+(j:Int):=ag;have htn:((b:Int)+(j:Int)).toNat=b+j:=ag;have Zc:IntKind.i64.wrap ((b:Int)+(j:Int))=((b+j:Nat):Int):=iw;have hsp:=pow_add ⟨k,hk7⟩ j f (by rw[<-(show b=2^k from Jk)];exact aiu);simp only[<-(show b=2^k from Jk)]at hsp;have hxr:bits .xor .u8 ((mul j f:Nat):Int) ((mul b f:Nat):Int)=((mul (b+j) f:Nat):Int):=by rw[u8_xor_nat _ _ (mul_lt ag) hmb,hsp]
     have hix:∀(w:ah)(es:aH),(Instr.indexAt 209 (.pointer (some ⟨N3,0,none⟩)) (.int .i64 (j:Int))).events prog w es=es:=λw es=>events_indexAt_array _ _ _ _ _ _ underlying209 ⟨ag,ag⟩
     have hiy:∀(w:ah)(es:aH),(Instr.indexAt 209 (.pointer (some ⟨N3,0,none⟩)) (.int .i64 ((b:Int)+(j:Int)))).events prog w es=es:=λw es=>events_indexAt_array _ _ _ _ _ _ underlying209 ⟨ag,ag⟩
     co_ctl qj
     co_then
     co_ctl qj
     co_ctl qj
     co_ctl qj
     co_reg qj;co_op PF.rely hF (co_quiet qj);co_op PF.rely hF (co_quiet qj);co_apply bV qj;co_then;co_reg qj;co_op PF.rely hF (co_quiet qj);co_op PF.rely hF (co_quiet qj);co_op PF.rely hF (co_quiet qj);co_op PF.rely hF (co_quiet qj)
     co_opw PF.rely hF (skip) (co_still qj)
     co_opw PF.rely hF (have hc:=hF.cell (x:=j) ag ag) (refine ui (.inl hF.m3) (hF.bs.lt hF.m3) ?_;co_evs (exact⟨_,rfl,rfl⟩))
     clear hc;co_op PF.rely hF (co_quiet qj);co_op PF.rely hF (co_quiet qj)
     co_opw PF.rely hF (skip) (co_still qj)
     co_opw PF.rely hF (have hc:=hF.cell0 asj;have hz:=hF.thaw (b+j)) (refine Qw hF.m3 (hF.ne0 h0).2 (hF.bs.lt hF.m3) ?_;co_evs (exact⟨_,_,rfl,rfl⟩))
     replace hF:=hF.set h0;rw[hsp]at hF;clear hc hz;co_apply bV qj;co_then;co_reg qj;co_op PF.rely hF (co_quiet qj);co_op PF.rely hF (co_quiet qj);co_apply bV qj;co_then;have BB:IntKind.i64.wrap ((j:Int)+1)=((j+1:Nat):Int):=iw;simp only[BB];refine⟨⟨j+1,_,_,_,_,_,_,_,_,_,_,_,_,_,_,_,_,_,_,_,_,_,ag,hF,rfl⟩,?_⟩;simp[muI];omega
    .intro Oq;obtain rfl:j=b:=awW;clear Oq
     co_go qj PF.rely hF (co_quiet qj)
     co_apply opsC_call qj rfl aI rfl
     .walk_nrm;exact hx _ _ hmb
     rintro v w' ⟨rfl,hs⟩;replace hF:PF Wg C n B Cl w N2 N3 f (j+j) w':=hs.elim (λe=>e▸hF) (λr=>hF.rely r);clear hs;walk_nrm;co_op PF.rely hF (co_quiet qj);co_apply bV qj;co_then;have P7:k=7\/k<7:=ag
     have hjj:afS (k+1) (j+j):=by have e:j=2^k:=Jk;show j+j=2^(k+1);rw[jd];omega
     have Zc:IntKind.i64.wrap ((j:Int)*2)=((j+j:Nat):Int):=iw
     have htx:k+1<8->tx (mul j f)=mul (j+j) f:=by intro hk3;have:=akT ⟨k,ag⟩ ⟨f,hf⟩;simp only[<-(show j=2^k from Jk),<-(show j+j=2^(k+1)from hjj)]at this;exact this
     generalize tx (mul j f)=fa at htx⊢
     co_go qj PF.rely hF (co_quiet qj)
     refine⟨⟨k+1,j+j,fa,_,_,_,_,_,_,_,_,_,_,_,_,_,_,_,_,_,_,_,_,_,_,_,ag,hjj,htx,hF,rfl⟩,?_⟩;simp[muO];omega
  .intro qK
   obtain rfl:k=8:=by
    have:=jr qK;rcases bJ k 8 with h|h
    .have h2:∀k:Fin 8,2^k.val<256:=aC;have:=h2 ⟨k,h⟩;exact azf
    .omega
   obtain rfl:b=256:=Jk
   co_go qj PF.rely hF (co_quiet qj)
   co_apply opsC_cons rfl aI;intro w₁ r;replace hF:=hF.rely r;clear r;have hz:Tryz.zeroCells209.size=256:=awQ;obtain⟨T,hT,hTs,hT1⟩:∃T,zX f 256=T/\T.size=256/\∀v∈T,v.oneCell'=true:=⟨_,rfl,uP f _,Js f _⟩;have h3:=hF.h3;rw[hT]at h3;rw[S_ rfl rfl (KD h3 hTs)];simp only[uponK_value];refine⟨?_,?_⟩
   .unfold listed;rw[aeH rfl rfl];exact ui (.inl hF.m3) (hF.bs.lt hF.m3) (λe he=>V9 h3 hTs e (mem_seen he))
   clear h3;walk_nrm;co_apply opsC_cons rfl aI;intro w₁ r;replace hF:=hF.rely r;clear r;have sW:=OJ (c':=T) hF.h2 hz hTs hT1;rw[OL (v:=.agg T) rfl rfl rfl sW];simp only[uponK_skip];refine⟨?_,?_⟩
   .unfold listed;rw[RH (v:=.agg T) rfl rfl rfl];exact aih hF.m2 (hF.ne0 h0).1 (hF.bs.lt hF.m2) (λe he=>RJ (c':=T) hF.h2 hz hTs hT1 e (mem_seen he))
   clear sW;have hE:PE Wg C n B Cl w N2 f (World.setRow w₁ N2 T):=⟨hF.bs.row _ _,adk hF.ex h0 hF.lo2 _,sQ (w:=w₁) (w':=World.setRow w₁ N2 _) rfl iW hF.m2,by rw[hT];exact OI _ hF.h2⟩;walk_nrm;co_apply bV qj;co_then;co_apply wpC_ret qj;exact⟨rfl,N2,rfl,hE⟩
end
end Go.Proofs.Y
namespace Go.Proofs.Y
open Go.Proofs.Tryz
open Go.RowKit
theorem Y1(a:Nat)(ha:a<9223372036854775808):(BitVec.ofInt 64 (a:Int)).toNat=a:=by rw[av8,pR];exact cu ag
theorem RP(a b:Nat)(ha:a<9223372036854775808)(hb:b<9223372036854775808):bits .xor .i64 (a:Int) (b:Int)=((a^^^b:Nat):Int):=by have hx:a^^^b<2^63:=iQ ag ag;show IntKind.i64.wrap ((BitVec.ofInt 64 (a:Int)^^^BitVec.ofInt 64 (b:Int)).toNat:Int)=_;rw[av7,Y1 a ha,Y1 b hb,fO];omega
end Go.Proofs.Y
namespace Go.Proofs.Y
open Go.Proofs.Tryz
open Go.RowKit Go.Deep
theorem Tryz.ae8:(prog.info? 5).map (λi=>(i.zero,i.size,i.bytes))=some (some (.int .u8 0),1,1):=aj
theorem Tryz.asl:(prog.info? 34).map (λi=>(i.zero,i.size,i.bytes))=some (some (.slice none 0 0),1,24):=aj
def uB(k i j:Nat):Nat:=if i<k then(if j=i then 1 else 0)else inv ((i^^^j)%256)
structure Ad(w w':ah)(n:Nat)(f:Nat->Nat):Prop where
 row:w'.rowIs w.heap.size 5 n (λj=>.int .u8 (f j:Nat))
 size:w'.heap.size=w.heap.size+1
 below:Below w.heap.size w w'
theorem aeI(n:Nat)(hn:n<=128)(w:ah):(Instr.makeSlice 34 (.int .i64 (n:Int)) (.int .i64 (n:Int))).run prog w=.ok (.slice (some ⟨w.heap.size,0,none⟩) n n) (w.alloc (.cells (madeCells #[.int .u8 0] n) 5)):=
 run_make_row' (P:=prog) 34 5 (.int .u8 0) 1 underlying34 Tryz.ae8 rfl .i64 .i64 n ag ag w
theorem acL(w:ah)(n:Nat):Ad w (w.alloc (.cells (madeCells #[.int .u8 0] n) 5)) n (λ_=>0):=
 ⟨World.rowIs_made w (.int .u8 0) n 5,ax,(aT _ _).alloc (az _) _⟩
theorem Ad.set{w w':ah}{n:Nat}{f:Nat->Nat}(h:Ad w w' n f)(i v:Nat){g:Nat->Nat}(hg:∀j,j<n->g j=if j=i then v else f j):
  Ad w (w'.setCell ⟨w.heap.size,i,none⟩ (.int .u8 (v:Int))) n g:=
 ⟨(h.row.set i _).congr (λj hj=>by rw[hg j hj];split<;>rfl),kG,h.below.setCell (az _) _⟩
theorem Ad.congr{w w':ah}{n:Nat}{f g:Nat->Nat}(h:Ad w w' n f)(e:∀j,j<n->f j=g j):Ad w w' n g:=
 ⟨h.row.congr (λj hj=>by rw[e j hj]),h.size,h.below⟩
theorem acM(n:Nat)(hn:n<=128)(w:ah):∃w1,(Instr.makeSlice 34 (.int .i64 (n:Int)) (.int .i64 (n:Int))).run prog w=.ok (.slice (some ⟨w.heap.size,0,none⟩) n n) w1/\Ad w w1 n (λ_=>0):=
 ⟨_,aeI n hn w,acL w n⟩
theorem Tc(k i:Nat)(hk:k<=128)(hi:i<k)(w:ah):
  Calls prog 92 #[.int .i64 (k:Int),.int .i64 (i:Int)] w λe w'=>e=.returned (.slice (some ⟨w.heap.size,0,none⟩) k k)/\Ad w w' k (uB k i):=by
 obtain⟨w1,Y_,h0⟩:=acM k hk w;have hc:w1.cell? ⟨w.heap.size,i,none⟩=some (.int .u8 0):=h0.row.cell hi;have hf:w1.frozen? ⟨w.heap.size,i,none⟩=false:=h0.row.frozen i;have h1:=h0.set i 1 (g:=uB k i) (λj hj=>by unfold uB;rw[ay hi]);go_enter func92,ntmps92;go_wp2;go_ret;exact⟨rfl,h1⟩
theorem Qz{a b:Nat}(ha:a<128)(hb:b<128):a^^^b<128:=iQ (n:=7) ha hb
theorem D7{k i j:Nat}:uB k i j<256:=by
 unfold uB;split
 .split<;>omega
 .exact aip (iR _ ag)
theorem ami(k i:Nat)(hk:k<=128)(hi:i<128)(w:ah):
  Calls prog 52 #[.int .i64 (k:Int),.int .i64 (i:Int)] w λe w'=>e=.returned (.slice (some ⟨w.heap.size,0,none⟩) k k)/\Ad w w' k (uB k i):=by
 by_cases WT:i<k
 .go_enter func52,ntmps52
  go_wp2_with(first|(go_at_call 92;refine(Tc _ _ hk WT _).mono ?_;rintro e w' ⟨rfl,h1⟩))
  go_ret;exact⟨rfl,iy⟩
 .obtain⟨w1,Y_,h0⟩:=acM k hk w;go_enter func52,ntmps52;go_wp2;clear Y_
  go_loopw [6,17] (λ_ vi wr=>∃c:Nat,c<=k/\vi=.int .i64 (c:Int)/\Ad w wr k (λj=>if j<c then uB k i j else 0)) (λ_ i _=>k-(intOf i).toNat)
  case atStart=>exact⟨0,ag,rfl,h0.congr (λj _=>iq)⟩
  case round=>
   obtain⟨c,hc,rfl,hN⟩:=hrel;clear h0;by_cases qK:c<k
   .have hx:bits .xor .i64 (i:Int) (c:Int)=((i^^^c:Nat):Int):=RP _ _ ag ag;have hxl:=Qz hi (show c<128 by omega);obtain⟨x,ex⟩:∃x,i^^^c=x:=⟨_,rfl⟩;rw[ex]at hx hxl
    have hcell:wr.cell? ⟨w.heap.size,c,none⟩=some (.int .u8 0):=by have:=hN.row.cell qK;exact ayq
    have KZ:wr.frozen? ⟨w.heap.size,c,none⟩=false:=hN.row.frozen c
    have Ui:=hN.set c (inv x) (g:=λj=>if j<c+1 then uB k i j else 0) (λj hj=>by
     by_cases e:j=c
     .subst e;rw[ay (dV j),ay rfl];unfold uB;rw[au WT,ex,cu ag]
     .rw[au e];by_cases hj2:j<c
      .rw[ay hj2,ay ag]
      .rw[au hj2,au ag])
    clear ex hN
    go_wp2_with(first|(go_at_call 93;refine(afR _ ag _).mono ?_;rintro e w' ⟨rfl,rfl⟩))
    go_roundw
    case rel=>exact⟨c+1,ag,bU,Ui⟩
    case measure=>simp[intOf];omega
   .have e:c=k:=ag;subst e;go_wp2;go_ret;exact⟨rfl,hN.congr (λj hj=>awC)⟩
theorem EJ(n:Nat)(hn:n<=128)(w:ah):(Instr.makeSlice 28 (.int .i64 (n:Int)) (.int .i64 (n:Int))).run prog w=.ok (.slice (some ⟨w.heap.size,0,none⟩) n n) (w.alloc (.cells (madeCells #[.slice none 0 0] n) 34)):=
 run_make_row' (P:=prog) 28 34 (.slice none 0 0) 24 underlying28 Tryz.asl rfl .i64 .i64 n ag ag w
def acN(B k c i:Nat):ai:=if i<c then .slice (some ⟨B+1+i,0,none⟩) k k else .slice none 0 0
structure IE(w w':ah)(n k c:Nat)(f:Nat->Nat->Nat):Prop where
 head:w'.rowIs w.heap.size 34 n (acN w.heap.size k c)
 rows:∀i,i<c->w'.rowIs (w.heap.size+1+i) 5 k (λj=>.int .u8 (f i j:Nat))
 size:w'.heap.size=w.heap.size+1+c
 below:Below w.heap.size w w'
theorem XL(w:ah)(n k:Nat)(f:Nat->Nat->Nat):IE w (w.alloc (.cells (madeCells #[.slice none 0 0] n) 34)) n k 0 f:=
 ⟨(World.rowIs_made w (.slice none 0 0) n 34).congr (λi _=>by unfold acN;rw[au ag]),λi h=>ag,ax,(aT _ _).alloc (az _) _⟩
theorem XM(n k:Nat)(hn:n<=128)(f:Nat->Nat->Nat)(w:ah):∃w1,(Instr.makeSlice 28 (.int .i64 (n:Int)) (.int .i64 (n:Int))).run prog w=.ok (.slice (some ⟨w.heap.size,0,none⟩) n n) w1/\IE w w1 n k 0 f:=
 ⟨_,EJ n hn w,XL w n k f⟩
theorem IE.step{w wr w':ah}{n k c:Nat}{f:Nat->Nat->Nat}(h:IE w wr n k c f)(hn:Ad wr w' k (f c)):
  IE w (w'.setCell ⟨w.heap.size,c,none⟩ (.slice (some ⟨wr.heap.size,0,none⟩) k k)) n k (c+1) f:=by
 have hz:=h.size;have hb:∀j,j<wr.heap.size->w'.heap[j]?=wr.heap[j]?:=λj hj=>hn.below.block j hj
 refine⟨?_,?_,by rw[show(w'.setCell _ _).heap.size=w'.heap.size from by simp];rw[hn.size,hz];omega,(h.below.trans (hn.below.mono ag)).setCell (az _) _⟩
 .refine((h.head.of_block (hb _ ag)).set c _).congr (λj _=>?_);unfold acN;by_cases e:j=c
  .subst e;rw[ay rfl,ay ag,hz]
  .rw[au e];by_cases hj:j<c
   .rw[ay hj,ay ag]
   .rw[au hj,au ag]
 .intro i hi;refine World.rowIs.setOther ?_ (by show w.heap.size+1+i≠w.heap.size;omega) _;by_cases e:i=c
  .subst e;have:=hn.row;rw[hz]at this;exact this
  .exact(h.rows i ag).of_block (hb _ ag)

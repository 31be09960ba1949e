import Derived.Test.YtnbflnamlpodcaaGreatDoorCoC
import Derived.Deep.OwnRows
set_option maxHeartbeats 2000000
set_option maxRecDepth 100000
namespace Go.Proofs.Y
open Go.Proofs.Tryz
open Go.RowKit
theorem XR(a:Nat)(ha:a<9223372036854775808):(BitVec.ofInt 64 (a:Int)).toNat=a:=by rw[aun,oq];exact aZ ae
theorem QI(a b:Nat)(ha:a<9223372036854775808)(hb:b<9223372036854775808):bits .xor .i64 (a:Int) (b:Int)=((a^^^b:Nat):Int):=by have hx:a^^^b<2^63:=iC ae ae;show IntKind.i64.wrap ((BitVec.ofInt 64 (a:Int)^^^BitVec.ofInt 64 (b:Int)).toNat:Int)=_;rw[aum,XR a ha,XR b hb,dZ];omega
end Go.Proofs.Y
namespace Go.Proofs.Y
open Go.Proofs.Tryz
open Go.RowKit Go.Deep
theorem Tryz.aeE:(prog.info? 5).map (λi=>(i.zero,i.size,i.bytes))=some (some (.int .u8 0),1,1):=ag
theorem Tryz.aqz:(prog.info? 34).map (λi=>(i.zero,i.size,i.bytes))=some (some (.slice none 0 0),1,24):=ag
def uj(k i j:Nat):Nat:=if i<k then(if j=i then 1 else 0)else inv ((i^^^j)%256)
structure zK(w w':World)(n:Nat)(f:Nat->Nat):Prop where
 row:w'.rowIs w.heap.size 5 n (λj=>.int .u8 (f j:Nat))
 size:w'.heap.size=w.heap.size+1
 below:Below w.heap.size w w'
theorem ads(n:Nat)(hn:n<=128)(w:World):(Instr.makeSlice 34 (.int .i64 (n:Int)) (.int .i64 (n:Int))).run prog w=.ok (.slice (some ⟨w.heap.size,0,none⟩) n n) (w.alloc (.cells (madeCells #[.int .u8 0] n) 5)):=
 run_make_row' (P:=prog) 34 5 (.int .u8 0) 1 underlying34 Tryz.aeE rfl .i64 .i64 n ae ae w
theorem aa_(w:World)(n:Nat):zK w (w.alloc (.cells (madeCells #[.int .u8 0] n) 5)) n (λ_=>0):=
 ⟨World.rowIs_made w (.int .u8 0) n 5,ai,(aA _ _).alloc (ak _) _⟩
theorem zK.set{w w':World}{n:Nat}{f:Nat->Nat}(h:zK w w' n f)(i v:Nat){g:Nat->Nat}(hg:∀j,j<n->g j=if j=i then v else f j):
  zK w (w'.setCell ⟨w.heap.size,i,none⟩ (.int .u8 (v:Int))) n g:=
 ⟨(h.row.set i _).congr (λj hj=>by rw[hg j hj];split<;>rfl),jE,h.below.setCell (ak _) _⟩
theorem zK.congr{w w':World}{n:Nat}{f g:Nat->Nat}(h:zK w w' n f)(e:∀j,j<n->f j=g j):zK w w' n g:=
 ⟨h.row.congr (λj hj=>by rw[e j hj]),h.size,h.below⟩
theorem aba(n:Nat)(hn:n<=128)(w:World):∃w1,(Instr.makeSlice 34 (.int .i64 (n:Int)) (.int .i64 (n:Int))).run prog w=.ok (.slice (some ⟨w.heap.size,0,none⟩) n n) w1/\zK w w1 n (λ_=>0):=
 ⟨_,ads n hn w,aa_ w n⟩
theorem QX(k i:Nat)(hk:k<=128)(hi:i<k)(w:World):
  Calls prog 92 #[.int .i64 (k:Int),.int .i64 (i:Int)] w λe w'=>e=.returned (.slice (some ⟨w.heap.size,0,none⟩) k k)/\zK w w' k (uj k i):=by
 obtain⟨w1,hmk,h0⟩:=aba k hk w;have hc:w1.cell? ⟨w.heap.size,i,none⟩=some (.int .u8 0):=h0.row.cell hi;have hf:w1.frozen? ⟨w.heap.size,i,none⟩=false:=h0.row.frozen i;have h1:=h0.set i 1 (g:=uj k i) (λj hj=>by unfold uj;rw[aj hi]);go_enter func92,ntmps92;go_wp2;go_ret;exact⟨rfl,h1⟩
theorem PQ{a b:Nat}(ha:a<128)(hb:b<128):a^^^b<128:=iC (n:=7) ha hb
theorem Dw{k i j:Nat}:uj k i j<256:=by
 unfold uj;split
 .split<;>omega
 .exact aiz (fJ _ ae)
theorem alx(k i:Nat)(hk:k<=128)(hi:i<128)(w:World):
  Calls prog 52 #[.int .i64 (k:Int),.int .i64 (i:Int)] w λe w'=>e=.returned (.slice (some ⟨w.heap.size,0,none⟩) k k)/\zK w w' k (uj k i):=by
 by_cases VW:i<k
 .go_enter func52,ntmps52
  go_wp2_with(first|(go_at_call 92;refine(QX _ _ hk VW _).mono ?_;rintro e w' ⟨rfl,h1⟩))
  go_ret;exact⟨rfl,fZ⟩
 .obtain⟨w1,hmk,h0⟩:=aba k hk w;go_enter func52,ntmps52;go_wp2;clear hmk
  go_loopw [6,17] (λ_ vi wr=>∃c:Nat,c<=k/\vi=.int .i64 (c:Int)/\zK w wr k (λj=>if j<c then uj k i j else 0)) (λ_ i _=>k-(intOf i).toNat)
  case atStart=>exact⟨0,ae,rfl,h0.congr (λj _=>fV)⟩
  case round=>
   obtain⟨c,hc,rfl,hN⟩:=hrel;clear h0;by_cases qE:c<k
   .have hx:bits .xor .i64 (i:Int) (c:Int)=((i^^^c:Nat):Int):=QI _ _ ae ae;have hxl:=PQ hi (show c<128 by omega);obtain⟨x,ex⟩:∃x,i^^^c=x:=⟨_,rfl⟩;rw[ex]at hx hxl
    have hcell:wr.cell? ⟨w.heap.size,c,none⟩=some (.int .u8 0):=by have:=hN.row.cell qE;exact awG
    have JS:wr.frozen? ⟨w.heap.size,c,none⟩=false:=hN.row.frozen c
    have S_:=hN.set c (inv x) (g:=λj=>if j<c+1 then uj k i j else 0) (λj hj=>by
     by_cases e:j=c
     .subst e;rw[aj (dm j),aj rfl];unfold uj;rw[ah VW,ex,aZ ae]
     .rw[ah e];by_cases hj2:j<c
      .rw[aj hj2,aj ae]
      .rw[ah hj2,ah ae])
    clear ex hN
    go_wp2_with(first|(go_at_call 93;refine(aeC _ ae _).mono ?_;rintro e w' ⟨rfl,rfl⟩))
    go_roundw
    case rel=>exact⟨c+1,ae,aW,S_⟩
    case measure=>simp[intOf];omega
   .have e:c=k:=ae;subst e;go_wp2;go_ret;exact⟨rfl,hN.congr (λj hj=>auQ)⟩
theorem Eg(n:Nat)(hn:n<=128)(w:World):(Instr.makeSlice 28 (.int .i64 (n:Int)) (.int .i64 (n:Int))).run prog w=.ok (.slice (some ⟨w.heap.size,0,none⟩) n n) (w.alloc (.cells (madeCells #[.slice none 0 0] n) 34)):=
 run_make_row' (P:=prog) 28 34 (.slice none 0 0) 24 underlying28 Tryz.aqz rfl .i64 .i64 n ae ae w
def abb(B k c i:Nat):Value:=if i<c then .slice (some ⟨B+1+i,0,none⟩) k k else .slice none 0 0
structure Hg(w w':World)(n k c:Nat)(f:Nat->Nat->Nat):Prop where
 head:w'.rowIs w.heap.size 34 n (abb w.heap.size k c)
 rows:∀i,i<c->w'.rowIs (w.heap.size+1+i) 5 k (λj=>.int .u8 (f i j:Nat))
 size:w'.heap.size=w.heap.size+1+c
 below:Below w.heap.size w w'
theorem Wn(w:World)(n k:Nat)(f:Nat->Nat->Nat):Hg w (w.alloc (.cells (madeCells #[.slice none 0 0] n) 34)) n k 0 f:=
 ⟨(World.rowIs_made w (.slice none 0 0) n 34).congr (λi _=>by unfold abb;rw[ah ae]),λi h=>ae,ai,(aA _ _).alloc (ak _) _⟩
theorem Wp(n k:Nat)(hn:n<=128)(f:Nat->Nat->Nat)(w:World):∃w1,(Instr.makeSlice 28 (.int .i64 (n:Int)) (.int .i64 (n:Int))).run prog w=.ok (.slice (some ⟨w.heap.size,0,none⟩) n n) w1/\Hg w w1 n k 0 f:=
 ⟨_,Eg n hn w,Wn w n k f⟩
theorem Hg.step{w wr w':World}{n k c:Nat}{f:Nat->Nat->Nat}(h:Hg w wr n k c f)(hn:zK wr w' k (f c)):
  Hg w (w'.setCell ⟨w.heap.size,c,none⟩ (.slice (some ⟨wr.heap.size,0,none⟩) k k)) n k (c+1) f:=by
 have hz:=h.size;have hb:∀j,j<wr.heap.size->w'.heap[j]?=wr.heap[j]?:=λj hj=>hn.below.block j hj
 refine⟨?_,?_,by rw[show(w'.setCell _ _).heap.size=w'.heap.size from by simp];rw[hn.size,hz];omega,(h.below.trans (hn.below.mono ae)).setCell (ak _) _⟩
 .refine((h.head.of_block (hb _ ae)).set c _).congr (λj _=>?_);unfold abb;by_cases e:j=c
  .subst e;rw[aj rfl,aj ae,hz]
  .rw[ah e];by_cases hj:j<c
   .rw[aj hj,aj ae]
   .rw[ah hj,ah ae]
 .intro i hi;refine World.rowIs.setOther ?_ (by show w.heap.size+1+i≠w.heap.size;omega) _;by_cases e:i=c
  .subst e;have:=hn.row;rw[hz]at this;exact this
  .exact(h.rows i ae).of_block (hb _ ae)
def Zf(w:World)(v:Value)(l:List UInt8):Prop:=
 (v=.slice none 0 0/\l=[])\/∃a cap,v=.slice (some a) l.length cap/\∀j (hj:j<l.length),w.cell? (a.add j)=some (.int .u8 (l[j].toNat:Int))
theorem Zf.string{w:World}{v:Value}{l:List UInt8}(h:Zf w v l):(convert 34 9 v).run prog w=.ok (.string ⟨l.toArray⟩) w:=by
 rcases h with⟨rfl,rfl⟩|⟨a,cap,rfl,hc⟩
 .rw[run_convert_bytes_string w 34 9 5 none 0 0 underlying34 underlying5 underlying9];rfl
 .exact run_convert_bytes_back w 34 9 5 a cap l underlying34 underlying5 underlying9 hc
theorem ajj(x:Int):∀u∈[Value.int .u8 x],u.oneCell'=true:=pR
theorem adt{P:Program}{o:Oper}{a:Act}{w:World}{K:Act->World->Prop}{Q:Exit->Act->World->Prop}{t:TypeId}{x:Operand}{N:Nat}{v:Value}(ho:o.op=.load t x)(hx:a.eval x=.pointer (some ⟨N,0,none⟩))(hl:(loadVar t ⟨N,0,none⟩).run P w=.ok v w)(h:K (a.put o.dst v) w):o.wp P a w K Q:=by unfold Oper.wp;rw[QF ho hx hl];exact h
theorem Om{w:World}{N:Nat}{c c':Array Value}(h:w.heap[N]?=some (.cells c 209))(hc:c.size=256)(hc':c'.size=256)(h1:∀v∈c',v.oneCell'=true):
  (storeCells ⟨N,0,none⟩ c'.toList).run prog w=.ok () (w.setRow N c'):=by
 have:=run_storeCells_from (P:=prog) N _ c'.toList 0 c w h az (λv hv=>h1 v (by simpa using hv));rw[this]
 congr 2
structure PT(w:World)(f m:Nat)(w':World):Prop where
 h2:w'.heap[w.heap.size]?=some (.cells Tryz.zeroCells209 209)
 h3:w'.heap[w.heap.size+1]?=some (.cells (zH f m) 209)
 size:w'.heap.size=w.heap.size+2
 below:Below w.heap.size w w'
theorem PT.start(w:World)(f:Nat):PT w f 1 ((w.alloc (.cells Tryz.zeroCells209 209)).alloc (.cells Tryz.zeroCells209 209)):=by
 have e:zH f 1=Tryz.zeroCells209:=by
  rw[D6 f,<-NR f 0];apply kX;intro i;rw[oz];by_cases h:0=i
  .subst h;rw[aj rfl,aj (by simp[zH]),BU f 0 0 ae,zero_mul];rfl
  .rw[ah h]
 refine⟨?_,?_,ai,((aA _ _).alloc (ak _) _).alloc ai _⟩
 .exact axO
 .show((w.heap.push _).push _)[w.heap.size+1]?=_;rw[gJ,aj ai,e]
theorem PT.set{w w':World}{f m:Nat}(h:PT w f m w'):PT w f (m+1) (w'.setCell ⟨w.heap.size+1,m,none⟩ (.int .u8 ((mul m f:Nat):Int))):=
 ⟨(jI w' ⟨w.heap.size+1,m,none⟩ w.heap.size _ auH).trans h.h2,by rw[heap_set _ h.h3,NR],aut,h.below.setCell auI _⟩
theorem Oo(f:Nat)(hf:f<256)(w:World):
  Calls prog 118 #[.int .u8 (f:Int)] w λe w'=>e=.returned (.agg (zH f 256))/\Below w.heap.size w w':=by
 have h0:=PT.start w f;generalize hz:Tryz.zeroCells209=Z at h0;go_enter func118,ntmps118;go_wp2;generalize(w.alloc (Obj.cells Z 209)).alloc (Obj.cells Z 209)=w0 at h0⊢;subst hz
 go_loopw [0,4] (λvf vb wr=>∃k b fa:Nat,k<=8/\aeD k b/\(k<8->fa=mul b f)/\fa<256/\vf=.int .u8 (fa:Int)/\vb=.int .i64 (b:Int)/\PT w f b wr) (λ_ b _=>512-(intOf b).toNat)
 case atStart=>exact⟨0,1,f,ae,rfl,λ_=>by rw[mul_comm ae hf,mul_one hf],hf,rfl,rfl,h0⟩
 case round=>
  clear h0;obtain⟨k,b,fa,hk,IG,hfa,hfl,rfl,rfl,hT⟩:=hrel
  have hk8:b<=256:=by exact axD
  have t_:1<=b:=avI;by_cases qE:b<256
  .have hk7:k<8:=by
    rcases aQ k 8 with h|h
    .exact h
    .obtain rfl:k=8:=ae;have:b=256:=IG;omega
   obtain rfl:=hfa hk7;clear hfa;have Ag:(b:Int)<256:=ae;go_wp2
   go_loopw [11] (λvj wr=>∃j:Nat,j<=b/\vj=.int .i64 (j:Int)/\PT w f (b+j) wr) (λj _=>b-(intOf j).toNat)
   case atStart=>exact⟨0,ae,rfl,hT⟩
   case round=>
    clear hT;obtain⟨j,hj,rfl,hT⟩:=hrel;by_cases hjb:j<b
    .have atI:(j:Int)<(b:Int):=ae
     have hbj:b+j<256:=by have:∀k:Fin 8,2^k.val*2<=256:=au;have:=this ⟨k,hk7⟩;have e:b=2^k:=IG;simp only at this;omega
     have ev:mul (b+j) f=mul j f^^^mul b f:=by have e:b=2^k:=IG;rw[e];exact pow_add ⟨k,hk7⟩ j f (by rw[<-e];exact hjb)
     have c1:wr.cell? ⟨w.heap.size+1,j,none⟩=some (.int .u8 ((mul j f:Nat):Int)):=by rw[cell_of _ hT.h3,BU _ _ _ ae,aj ae]
     have c2:wr.cell? ⟨w.heap.size+1,b+j,none⟩=some (.int .u8 0):=by rw[cell_of _ hT.h3,BU _ _ _ hbj,ah ae];rfl
     have f2:wr.frozen? ⟨w.heap.size+1,b+j,none⟩=false:=vY _ hT.h3 _;have hm1:mul j f<256:=mul_lt ae;have hx:bits .xor .u8 ((mul j f:Nat):Int) ((mul b f:Nat):Int)=((mul (b+j) f:Nat):Int):=by rw[ev];exact u8_xor_nat _ _ hm1 hfl
     have VT:=hT.set;generalize mul (b+j) f=q at VT hx;generalize mul j f=p at c1 hx hm1;clear ev;go_wp2
     go_roundw
     case rel=>exact⟨j+1,ae,aW,VT⟩
     case measure=>simp[intOf];omega
    .obtain rfl:j=b:=ae;have GH:¬((j:Int)<(j:Int)):=ae;have hkb:k+1<=8:=ae
     have htx:k+1<8->tx (mul j f)=mul (j+j) f:=λh=>by have e:j=2^k:=IG;have:=ahC ⟨k,ae⟩ ⟨f,hf⟩;rw[e,show 2^k+2^k=2^(k+1)by omega];exact this
     have CJ:aeD (k+1) (j+j):=by have e:j=2^k:=IG;show j+j=2^(k+1);omega
     have Yp:=Lp hfl;have A7:=TY (mul j f) hfl;generalize mul j f=fa at*
     go_wp2_with(first|(go_at_call 128;(with_reducible refine(A7 _).mono ?_);rintro e w' ⟨rfl,tH⟩;obtain rfl:=tH.symm))
     go_roundw
     case rel=>exact⟨k+1,j+j,tx fa,hkb,CJ,htx,Yp,rfl,aW,hT⟩
     case measure=>simp[intOf];omega
  .have e:b=256:=ae;subst e;have hl:=IZ hT.h3 (uF f 256);have hs:=Om hT.h2 au4 (uF f 256) (I7 f 256);have SS:=NU (zH f 256) hT.h2;have sZ:Below w.heap.size w (wr.setRow w.heap.size (zH f 256)):=⟨hT.below.os,hT.below.tape,hT.below.output,by rw[xm];exact hT.below.size,λk hk=>(uf wr _ ae).trans (hT.below.block k hk)⟩;have hsz:=uF f 256;generalize hTT:zH f 256=T at*;go_wp2;refine adt rfl rfl hl ?_
   apply_assumption
   go_wp2;refine gu (nz (p:=2) rfl _ _ w.heap.size 209 _ (0,0) _ ax SS underlying209 rfl (by rw[hsz];exact ale)) rfl ?_;exact⟨by rw[hTT],sZ⟩
end Go.Proofs.Y
namespace Go.Proofs.Y
open Go.Proofs.Tryz
abbrev F:=Fin 256
namespace F
def add(a b:F):F:=⟨a.val^^^b.val,CY a.isLt b.isLt⟩
def mu(a b:F):F:=⟨mul a.val b.val,mul_lt a.isLt⟩
def iv(a:F):F:=⟨inv a.val,aiz a.isLt⟩
theorem add_comm(a b:F):add a b=add b a:=d_ (iM _ _)
theorem add_assoc(a b c:F):add (add a b) c=add a (add b c):=d_ (bJ _ _ _)
theorem Jr(a b c:F):add a (add b c)=add b (add a c):=by rw[<-add_assoc,add_comm a b,add_assoc]
theorem B_(a:F):add a a=0:=d_ (iy _)
theorem add_zero(a:F):add a 0=a:=d_ (l7 _)
theorem zero_add(a:F):add 0 a=a:=by rw[add_comm,add_zero]
theorem Lu(a b:F):add a (add a b)=b:=by rw[<-add_assoc,B_,zero_add]
theorem yL(a b:F):mu a b=mu b a:=d_ (mul_comm a.isLt b.isLt)
theorem Eo(a b c:F):mu (mu a b) c=mu a (mu b c):=d_ (mul_assoc a.isLt b.isLt c.isLt).symm
theorem Hl(a b c:F):mu a (mu b c)=mu b (mu a c):=by rw[<-Eo,yL a b,Eo]
theorem MN(a b c:F):mu a (add b c)=add (mu a b) (mu a c):=d_ (wJ _ _ a.isLt)
theorem ajk(a b c:F):mu (add a b) c=add (mu a c) (mu b c):=d_ (xk _ a.isLt b.isLt)
theorem EX(a:F):mu a 0=0:=d_ (mul_zero a.val)
theorem DD(a:F):mu 0 a=0:=by rw[yL,EX]
theorem adu(a:F):mu a 1=a:=d_ (mul_one a.isLt)
theorem Au(a:F):mu 1 a=a:=by rw[yL,adu]
theorem Js{a:F}(h:a≠0):mu a (iv a)=1:=d_ (alW a.isLt λe=>h (d_ e))
theorem ajl{a:F}(h:a≠0):mu (iv a) a=1:=by rw[yL,Js h]
theorem ajm:(1:F)≠0:=au
theorem agn{a b:F}(h:add a b=0):a=b:=by have:=aP (add a) h;rw[Lu,add_zero]at this;exact this.symm
theorem P9{a b:F}(h:a≠b):add a b≠0:=λe=>h (agn e)
theorem Kt{a b c:F}(ha:a≠0)(h:mu a b=mu a c):b=c:=by have:=aP (mu (iv a)) h;rwa[<-Eo,<-Eo,ajl ha,Au,Au]at this
theorem aqA{a:F}(ha:a≠0):iv a≠0:=λe=>ajm (by rw[<-Js ha,e,EX])
theorem key{u a b z:F}(h1:add u b≠0)(h2:add z b≠0)(h3:add u z≠0)(h4:add a z≠0)(x:F):
  add (mu (iv (add u z)) (mu x (mu (add a z) (iv (add z b))))) (mu (mu (add a b) (iv (add u b))) (mu (iv (add a z)) (mu x (mu (add a z) (iv (add z b))))))=mu (mu (add u a) (iv (add u b))) (mu (iv (add u z)) x):=by
 have e4:mu (iv (add a z)) (mu x (mu (add a z) (iv (add z b))))=mu x (iv (add z b)):=by rw[Hl x,<-Eo,ajl h4,Au]
 rw[e4];apply Kt h1;apply Kt h2;apply Kt h3
 have t1:mu (add u z) (mu (add z b) (mu (add u b) (mu (iv (add u z)) (mu x (mu (add a z) (iv (add z b)))))))=mu x (mu (add a z) (add u b)):=by
  calc _=mu (mu (add u z) (iv (add u z))) (mu (mu (add z b) (iv (add z b))) (mu x (mu (add a z) (add u b)))):=by simp only[yL,Hl]
   _=_:=by rw[Js h3,Js h2,Au,Au]
 have t2:mu (add u z) (mu (add z b) (mu (add u b) (mu (mu (add a b) (iv (add u b))) (mu x (iv (add z b))))))=mu x (mu (add a b) (add u z)):=by
  calc _=mu (mu (add u b) (iv (add u b))) (mu (mu (add z b) (iv (add z b))) (mu x (mu (add a b) (add u z)))):=by simp only[yL,Hl]
   _=_:=by rw[Js h1,Js h2,Au,Au]
 have t3:mu (add u z) (mu (add z b) (mu (add u b) (mu (mu (add u a) (iv (add u b))) (mu (iv (add u z)) x))))=mu x (mu (add u a) (add z b)):=by
  calc _=mu (mu (add u b) (iv (add u b))) (mu (mu (add u z) (iv (add u z))) (mu x (mu (add u a) (add z b)))):=by simp only[yL,Hl]
   _=_:=by rw[Js h1,Js h3,Au,Au]
 rw[MN (add u b),MN (add z b),MN (add u z),t1,t2,t3,<-MN];refine aP (mu x) ?_;simp only[MN,ajk];simp only[yL,add_assoc,add_comm,Jr,Lu,B_,zero_add]
def sum:List Nat->(Nat->F)->F
 |[],_=>0
 |i::l,f=>add (f i) (sum l f)
theorem D_{l:List Nat}{f g:Nat->F}(h:∀i∈l,f i=g i):sum l f=sum l g:=by
 induction l with
 |nil=>rfl
 |cons i l ih=>rw[sum,sum,h i ai,ih λj hj=>h j jD]
theorem sum_add(l:List Nat)(f g:Nat->F):sum l (λi=>add (f i) (g i))=add (sum l f) (sum l g):=by
 induction l with
 |nil=>exact(add_zero 0).symm
 |cons i l ih=>simp only[sum,ih,add_assoc,Jr]
theorem Zg(l:List Nat)(c:F)(f:Nat->F):sum l (λi=>mu c (f i))=mu c (sum l f):=by
 induction l with
 |nil=>exact(EX c).symm
 |cons i l ih=>rw[sum,sum,ih,MN]
theorem ajn(l:List Nat){f:Nat->F}(h:∀i∈l,f i=0):sum l f=0:=by
 induction l with
 |nil=>rfl
 |cons i l ih=>rw[sum,h i ai,ih λj hj=>h j jD,add_zero]
theorem adv(l:List Nat)(p:Nat->Bool)(f:Nat->F)(h:∀i∈l,p i=false->f i=0):sum (l.filter p) f=sum l f:=by
 induction l with
 |nil=>rfl
 |cons i l ih=>
  have:=ih λj hj=>h j jD
  cases hp:p i with
  |true=>rw[List.filter_cons_of_pos oQ,sum,sum,this]
  |false=>rw[List.filter_cons_of_neg oQ,sum,this,h i ai hp,zero_add]
theorem Hm{l:List Nat}(hl:l.Nodup){f:Nat->F}{t:Nat}(ht:t∈l)(h:∀i∈l,i≠t->f i=0):sum l f=f t:=by
 induction l with
 |nil=>cases ht
 |cons i l ih=>
  rw[List.nodup_cons]at hl;rw[sum];rcases dA.1 ht with rfl|ht'
  .rw[ajn l λj hj=>h j jD (λe=>hl.1 (e▸hj)),add_zero]
  .rw[h i ai (λe=>hl.1 (e▸ht')),zero_add];exact ih hl.2 ht' λj hj hne=>h j jD hne
theorem ajo(a b:Nat->F):∀(V:List Nat),V.Nodup->(∀s∈V,∀j∈V,a s≠b j/\(s≠j->a s≠a j/\b s≠b j))->∀y:Nat->F,∃x:Nat->F,(∀j,j∉V->x j=0)/\∀s∈V,sum V (λj=>mu (iv (add (a s) (b j))) (x j))=y s
 |[],_,_,_=>⟨λ_=>0,λ_ _=>rfl,λ_ h=>eP⟩
 |t::V,hn,hd,y=>by
  rw[List.nodup_cons]at hn;have hd':∀s∈V,∀j∈V,a s≠b j/\(s≠j->a s≠a j/\b s≠b j):=λs hs j hj=>hd s (by simp[hs]) j jD
  have ne:∀s∈V,t≠s:=λs hs e=>hn.1 (e▸hs)
  let c:Nat->F:=λs=>mu (add (a t) (b t)) (iv (add (a s) (b t)))
  let d:Nat->F:=λs=>mu (add (a s) (b t)) (iv (add (a s) (a t)))
  obtain⟨x',Ac,hx⟩:=ajo a b V hn.2 hd' (λs=>mu (add (y s) (mu (c s) (y t))) (d s))
  let x1:Nat->F:=λj=>mu (x' j) (mu (add (a t) (b j)) (iv (add (b j) (b t))))
  let xt:F:=mu (add (a t) (b t)) (add (y t) (sum V λj=>mu (iv (add (a t) (b j))) (x1 j)))
  have htt:add (a t) (b t)≠0:=P9 (hd t ai t ai).1;have hsum:∀s,sum V (λj=>mu (iv (add (a s) (b j))) (if j=t then xt else x1 j))=sum V (λj=>mu (iv (add (a s) (b j))) (x1 j)):=λs=>D_ λj hj=>by rw[ah (λe=>ne j hj e.symm)]
  refine⟨λj=>if j=t then xt else x1 j,λj hj=>?_,λs hs=>?_⟩
  .simp only[dA,not_or]at hj;simp only[ah hj.1];show mu (x' j) _=0;rw[Ac j hj.2,DD]
  rw[sum,hsum];simp only[aF];by_cases uw:s=t
  .subst uw;show add (mu (iv (add (a s) (b s))) (mu (add (a s) (b s)) _)) _=_;rw[<-Eo,ajl htt,Au,add_assoc,B_,add_zero]
  .have hsV:s∈V:=by simpa[uw]using hs
   have amS:add (a s) (b t)≠0:=P9 (hd s hs t ai).1;have hsa:add (a s) (a t)≠0:=P9 ((hd s hs t ai).2 uw).1
   have e1:mu (iv (add (a s) (b t))) xt=add (mu (c s) (y t)) (sum V λj=>mu (c s) (mu (iv (add (a t) (b j))) (x1 j))):=by rw[Zg,<-MN];show mu (iv (add (a s) (b t))) (mu (add (a t) (b t)) _)=mu (mu (add (a t) (b t)) (iv (add (a s) (b t)))) _;rw[<-Eo,yL (iv _) (add (a t) (b t))]
   have e2:add (sum V λj=>mu (c s) (mu (iv (add (a t) (b j))) (x1 j))) (sum V λj=>mu (iv (add (a s) (b j))) (x1 j))=add (y s) (mu (c s) (y t)):=by
    rw[<-sum_add]
    have:∀j∈V,add (mu (c s) (mu (iv (add (a t) (b j))) (x1 j))) (mu (iv (add (a s) (b j))) (x1 j))=mu (mu (add (a s) (a t)) (iv (add (a s) (b t)))) (mu (iv (add (a s) (b j))) (x' j)):=by intro j hj;rw[add_comm];exact key amS (P9 ((hd j jD t ai).2 (λe=>ne j hj e.symm)).2) (P9 (hd' s hsV j hj).1) (P9 (hd t ai j jD).1) (x' j)
    rw[D_ this,Zg,hx s hsV];show mu (mu (add (a s) (a t)) (iv (add (a s) (b t)))) (mu _ (mu (add (a s) (b t)) (iv (add (a s) (a t)))))=_
    have:∀q p p' r r':F,mu p p'=1->mu r r'=1->mu (mu p r') (mu q (mu r p'))=q:=λq p p' r r' hp hr=>by
     calc _=mu (mu p p') (mu (mu r r') q):=by simp only[yL,Hl]
      _=q:=by rw[hp,hr,Au,Au]
    exact this _ _ _ _ _ (Js hsa) (Js amS)
   rw[e1,add_assoc,e2,Jr,add_comm (mu _ _) (mu _ _),B_,add_zero]
end F
end Go.Proofs.Y
namespace Go.Proofs.Y
open Go.Proofs.Tryz
namespace F
def dot(k:Nat)(r x:Nat->F):F:=sum (List.range k) λj=>mu (r j) (x j)
structure Sq(k:Nat)(px:Nat->F)(M:Nat->Nat->F):Prop where
 unit:∀s,s<k->(px s).val<k->(px s).val=s/\∀j,j<k->M s j=if j=s then 1 else 0
 inv:∀s,s<k->k<=(px s).val->∀j,j<k->M s j=iv (add (px s) (Fin.ofNat 256 j))
 inj:∀s j,s<k->j<k->s≠j->px s≠px j
 small:k<=256
theorem y9{k:Nat}{r x:Nat->F}{s:Nat}(hs:s<k)(h:∀j,j<k->r j=if j=s then 1 else 0):dot k r x=x s:=by
 have:=Hm (l:=List.range k) jM (f:=λj=>mu (r j) (x j)) (t:=s) (by simpa using hs) (λi hi hne=>by simp only[fK]at hi;simp only[h i hi,ah hne,DD])
 rw[dot,this];simp only[h s hs,aF,Au]
theorem aoN{k:Nat}{px:Nat->F}{M:Nat->Nat->F}(h:Sq k px M){t:Nat}(ht:t<k):∃x:Nat->F,(∀j,t<j->x j=0)/\(∀s,s<t->dot k (M s) x=0)/\dot k (M t) x=1:=by
 let b:Nat->F:=λj=>Fin.ofNat 256 j
 have bv:∀j,j<k->(b j).val=j:=λj hj=>aZ (aK hj h.small)
 have key:∀(V:List Nat),V.Nodup->(∀s∈V,s<k/\k<=(px s).val)->∀y:Nat->F,∃x:Nat->F,(∀j,j∉V->x j=0)/\∀s∈V,sum V (λj=>mu (iv (add (px s) (b j))) (x j))=y s:=λV hn hV y=>
  ajo px b V hn (λs hs j hj=>⟨λe=>by have:=aP Fin.val e;rw[bv j (hV j hj).1]at this;have:=(hV s hs).2;have:=(hV j hj).1;omega,λhne=>⟨h.inj s j (hV s hs).1 (hV j hj).1 hne,λe=>hne (by have:=aP Fin.val e;rwa[bv s (hV s hs).1,bv j (hV j hj).1]at this)⟩⟩) y
 have full:∀(p:Nat->Bool)(x:Nat->F)(s:Nat),s<k->k<=(px s).val->(∀j,j∉(List.range k).filter p->x j=0)->dot k (M s) x=sum ((List.range k).filter p) (λj=>mu (iv (add (px s) (b j))) (x j)):=λp x s hs hp hx=>by
  rw[adv,dot]
  .exact D_ λj hj=>by rw[h.inv s hs hp j jb]
  .intro j hj hpj;rw[hx j (by simp[hpj]),EX]
 by_cases htu:(px t).val<k
 ·
  let p:Nat->Bool:=λs=>decide (s<t)&&decide (k<=(px s).val)
  obtain⟨x,Ac,hx⟩:=key ((List.range k).filter p) (jM.filter _) (λs hs=>by simp[p]at hs;omega) (λs=>iv (add (px s) (b t)));have hxt:x t=0:=Ac t (by simp[p])
  have split:∀s,dot k (M s) (λj=>if j=t then 1 else x j)=add (dot k (M s) x) (M s t):=λs=>by
   have e1:∀j∈List.range k,mu (M s j) (if j=t then 1 else x j)=add (mu (M s j) (x j)) (if j=t then M s t else 0):=λj _=>by
    by_cases hj:j=t
    .subst hj;simp only[aF,hxt,EX,zero_add,adu]
    .simp only[ah hj,add_zero]
   rw[dot,D_ e1,sum_add]
   congr 1
   rw[Hm (l:=List.range k) jM (t:=t) mQ (λi _ hne=>by simp only[ah hne])];simp only[aF]
  refine⟨λj=>if j=t then 1 else x j,λj hj=>?_,λs hs=>?_,?_⟩
  .simp only[ah (show j≠t by omega)];exact Ac j jS
  .by_cases hsu:(px s).val<k
   .rw[y9 ae (h.unit s ae hsu).2];simp only[ah (show s≠t by omega)];exact Ac s jS
   .have hsV:s∈(List.range k).filter p:=jS;rw[split,full p x s ae ae Ac,hx s hsV,h.inv s ae ae t ht];exact B_ _
  .rw[y9 ht (h.unit t ht htu).2];simp only[aF]
 .let p:Nat->Bool:=λs=>decide (s<=t)&&decide (k<=(px s).val)
  obtain⟨x,Ac,hx⟩:=key ((List.range k).filter p) (jM.filter _) (λs hs=>by simp[p]at hs;omega) (λs=>if s=t then 1 else 0);refine⟨x,λj hj=>Ac j jS,λs hs=>?_,?_⟩
  .by_cases hsu:(px s).val<k
   .rw[y9 ae (h.unit s ae hsu).2];exact Ac s jS
   .rw[full p x s ae ae Ac,hx s jS];simp only[ah (show s≠t by omega)]
  .rw[full p x t ht ae Ac,hx t jS];simp only[aF]
structure Gj(k:Nat)(M:Nat->Nat->F)(t:Nat)(A B:Nat->Nat->F):Prop where
 same:∀x y:Nat->F,(∀i,i<k->dot k (A i) x=dot k (B i) y)↔∀i,i<k->dot k (M i) x=y i
 left:∀i s,i<k->s<t->A i s=if s=i then 1 else 0
 right:∀i s,i<k->t<=s->s<k->B i s=if s=i then 1 else 0
theorem ajp(k:Nat)(M:Nat->Nat->F):Gj k M 0 M (λi j=>if j=i then 1 else 0):=
 ⟨λx y=>forall_congr' λi=>forall_congr' λhi=>by rw[y9 (r:=λj=>if j=i then 1 else 0) hi λ_ _=>rfl],
  λ_ _ _ h=>absurd h ae,λ_ _ _ _ _=>rfl⟩
theorem arz{k:Nat}{px:Nat->F}{M A B:Nat->Nat->F}{t:Nat}(h:Sq k px M)(hg:Gj k M t A B)(ht:t<k):A t t≠0:=by
 obtain⟨x,Ac,hxs,hxt⟩:=aoN h ht;have:=(hg.same x (λi=>dot k (M i) x)).2 (λ_ _=>rfl) t ht
 have e1:dot k (A t) x=mu (A t t) (x t):=Hm jM mQ λi hi hne=>by
  rcases aQ i t with qE|VF
  .rw[hg.left t i ht qE,ah hne,DD]
  .rw[Ac i ae,EX]
 have e2:dot k (B t) (λi=>dot k (M i) x)=1:=by
  have e3:dot k (B t) (λi=>dot k (M i) x)=mu (B t t) (dot k (M t) x):=Hm jM mQ λi hi hne=>by
   rcases aQ i t with qE|VF
   .show mu (B t i) (dot k (M i) x)=0;rw[hxs i qE,EX]
   .rw[hg.right t i ht VF mV,ah hne,DD]
  rw[e3,hxt,hg.right t t ht (ak _) ht];simp only[aF,adu]
 rw[e1,e2]at this;intro e;rw[e,DD]at this;exact ajm this.symm
def scaled(c:F)(r:Nat->F):Nat->F:=λj=>mu (r j) c
def added(c:F)(r q:Nat->F):Nat->F:=λj=>add (r j) (mu (q j) c)
theorem Ho(k:Nat)(c:F)(r x:Nat->F):dot k (scaled c r) x=mu c (dot k r x):=by rw[dot,dot,<-Zg];exact D_ λj _=>by simp only[scaled,yL,Hl]
theorem XT(k:Nat)(c:F)(r q x:Nat->F):dot k (added c r q) x=add (dot k r x) (mu c (dot k q x)):=by
 rw[dot,dot,dot,<-Zg,<-sum_add]
 exact D_ λj _=>by rw[added,ajk];simp only[yL,Hl]
def LD(A:Nat->Nat->F)(t i:Nat):Nat->F:=if i=t then scaled (iv (A t t)) (A t)else added (A i t) (A i) (scaled (iv (A t t)) (A t))
def LG(A B:Nat->Nat->F)(t i:Nat):Nat->F:=if i=t then scaled (iv (A t t)) (B t)else added (A i t) (B i) (scaled (iv (A t t)) (B t))
theorem amc{k:Nat}{px:Nat->F}{M A B:Nat->Nat->F}{t:Nat}(h:Sq k px M)(hg:Gj k M t A B)(ht:t<k):Gj k M (t+1) (LD A t) (LG A B t):=by
 have hp:=arz h hg ht;refine⟨λx y=>?_,λi s hi hs=>?_,λi s hi hs xn=>?_⟩
 .rw[<-hg.same x y];constructor
  .intro e i hi;have et:=e t ht;simp only[LD,LG,aF,Ho]at et;have et':=Kt (aqA hp) et;by_cases Fj:i=t
   .subst Fj;exact et'
   .have ei:=e i hi;simp only[LD,LG,ah Fj,XT,Ho,et']at ei;have:=aP (add (mu (A i t) (mu (iv (A t t)) (dot k (B t) y)))) ei;rwa[Jr,B_,add_zero,Jr,B_,add_zero]at this
  .intro e i hi;by_cases Fj:i=t
   .subst Fj;simp only[LD,LG,aF,Ho,e i hi]
   .simp only[LD,LG,ah Fj,XT,Ho,e i hi,e t ht]
 .have tt:∀s,s<t+1->scaled (iv (A t t)) (A t) s=if s=t then 1 else 0:=λs hs=>by
   by_cases uw:s=t
   .subst uw;simp only[scaled,aF,Js hp]
   .simp only[scaled,hg.left t s ht ae,ah uw,DD]
  by_cases Fj:i=t
  .subst Fj;simp only[LD,aF];exact tt s hs
  .simp only[LD,ah Fj,added,tt s hs];by_cases uw:s=t
   .subst uw;simp only[aF,Au,B_];rw[ah (λe=>Fj e.symm)]
   .simp only[ah uw,DD,add_zero];exact hg.left i s hi ae
 .have tt:∀s,t+1<=s->s<k->scaled (iv (A t t)) (B t) s=0:=λs hs xn=>by
   simp only[scaled,hg.right t s ht ae xn,ah (show s≠t by omega),DD]
  by_cases Fj:i=t
  .subst Fj;simp only[LG,aF];rw[tt s hs xn,ah ae]
  .simp only[LG,ah Fj,added,tt s hs xn,DD,add_zero];exact hg.right i s hi ae xn
theorem an4{k:Nat}{M A B:Nat->Nat->F}(hg:Gj k M k A B)(y:Nat->F):∀i,i<k->dot k (M i) (λj=>dot k (B j) y)=y i:=by
 refine(hg.same (λj=>dot k (B j) y) y).1 λi hi=>?_
 rw[y9 hi λj hj=>by rw[hg.left i j hi hj]]

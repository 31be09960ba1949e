import Derived.Test.YtnbflnamlpodcaaGreatDoorCoC
import Derived.Deep.OwnRows
set_option maxHeartbeats 2000000
set_option maxRecDepth 100000
namespace Go.Proofs.Y
open Go.RowKit
theorem TN(a:Nat)(ha:a<9223372036854775808):(BitVec.ofInt 64 (a:Int)).toNat=a:=by rw[ao6,an2];exact bu ae
theorem Nh(a b:Nat)(ha:a<9223372036854775808)(hb:b<9223372036854775808):bits .xor .i64 (a:Int) (b:Int)=((a^^^b:Nat):Int):=by have hx:a^^^b<2^63:=jB ae ae;show IntKind.i64.wrap ((BitVec.ofInt 64 (a:Int)^^^BitVec.ofInt 64 (b:Int)).toNat:Int)=_;rw[an1,TN a ha,TN b hb,dR];omega
end Go.Proofs.Y
namespace Go.Proofs.Y
open Go.RowKit Go.Deep
theorem Tryz.adO:(Tryz.prog.info? 5).map (λi=>(i.zero,i.size,i.bytes))=some (some (.int .u8 0),1,1):=ag
theorem Tryz.aln:(Tryz.prog.info? 34).map (λi=>(i.zero,i.size,i.bytes))=some (some (.slice none 0 0),1,24):=ag
def sQ(k i j:Nat):Nat:=if i<k then(if j=i then 1 else 0)else inv ((i^^^j)%256)
structure yx(w w':World)(n:Nat)(f:Nat->Nat):Prop where
 row:w'.rowIs w.heap.size 5 n (λj=>.int .u8 (f j:Nat))
 size:w'.heap.size=w.heap.size+1
 below:Below w.heap.size w w'
theorem ZH(n:Nat)(hn:n<=128)(w:World):(Instr.makeSlice 34 (.int .i64 (n:Int)) (.int .i64 (n:Int))).run Tryz.prog w=.ok (.slice (some ⟨w.heap.size,0,none⟩) n n) (w.alloc (.cells (madeCells #[.int .u8 0] n) 5)):=
 run_make_row' (P:=Tryz.prog) 34 5 (.int .u8 0) 1 Tryz.underlying34 Tryz.adO rfl .i64 .i64 n ae ae w
theorem Xi(w:World)(n:Nat):yx w (w.alloc (.cells (madeCells #[.int .u8 0] n) 5)) n (λ_=>0):=
 ⟨World.rowIs_made w (.int .u8 0) n 5,ai,(aA _ _).alloc (ak _) _⟩
theorem yx.set{w w':World}{n:Nat}{f:Nat->Nat}(h:yx w w' n f)(i v:Nat){g:Nat->Nat}(hg:∀j,j<n->g j=if j=i then v else f j):
  yx w (w'.setCell ⟨w.heap.size,i,none⟩ (.int .u8 (v:Int))) n g:=
 ⟨(h.row.set i _).congr (λj hj=>by rw[hg j hj];split<;>rfl),jr,h.below.setCell (ak _) _⟩
theorem yx.congr{w w':World}{n:Nat}{f g:Nat->Nat}(h:yx w w' n f)(e:∀j,j<n->f j=g j):yx w w' n g:=
 ⟨h.row.congr (λj hj=>by rw[e j hj]),h.size,h.below⟩
theorem Xj(n:Nat)(hn:n<=128)(w:World):∃w1,(Instr.makeSlice 34 (.int .i64 (n:Int)) (.int .i64 (n:Int))).run Tryz.prog w=.ok (.slice (some ⟨w.heap.size,0,none⟩) n n) w1/\yx w w1 n (λ_=>0):=
 ⟨_,ZH n hn w,Xi w n⟩
theorem NF(k i:Nat)(hk:k<=128)(hi:i<k)(w:World):
  Calls Tryz.prog 92 #[.int .i64 (k:Int),.int .i64 (i:Int)] w λe w'=>e=.returned (.slice (some ⟨w.heap.size,0,none⟩) k k)/\yx w w' k (sQ k i):=by
 obtain⟨w1,hmk,h0⟩:=Xj k hk w;have hc:w1.cell? ⟨w.heap.size,i,none⟩=some (.int .u8 0):=h0.row.cell hi;have hf:w1.frozen? ⟨w.heap.size,i,none⟩=false:=h0.row.frozen i;have h1:=h0.set i 1 (g:=sQ k i) (λj hj=>by unfold sQ;rw[aj hi]);go_enter Tryz.func92,Tryz.ntmps92;go_wp2;go_ret;exact⟨rfl,h1⟩
theorem LD{a b:Nat}(ha:a<128)(hb:b<128):a^^^b<128:=jB (n:=7) ha hb
theorem AV{k i j:Nat}:sQ k i j<256:=by
 unfold sQ;split
 .split<;>omega
 .exact aeC (gW _ ae)
theorem ahb(k i:Nat)(hk:k<=128)(hi:i<128)(w:World):
  Calls Tryz.prog 52 #[.int .i64 (k:Int),.int .i64 (i:Int)] w λe w'=>e=.returned (.slice (some ⟨w.heap.size,0,none⟩) k k)/\yx w w' k (sQ k i):=by
 by_cases hik:i<k
 .go_enter Tryz.func52,Tryz.ntmps52
  go_wp2_with(first|(go_at_call 92;refine(NF _ _ hk hik _).mono ?_;rintro e w' ⟨rfl,h1⟩))
  go_ret;exact⟨rfl,fP⟩
 .obtain⟨w1,hmk,h0⟩:=Xj k hk w;go_enter Tryz.func52,Tryz.ntmps52;go_wp2;clear hmk
  go_loopw [6,17] (λ_ vi wr=>∃c:Nat,c<=k/\vi=.int .i64 (c:Int)/\yx w wr k (λj=>if j<c then sQ k i j else 0)) (λ_ i _=>k-(intOf i).toNat)
  case atStart=>exact⟨0,ae,rfl,h0.congr (λj _=>fM)⟩
  case round=>
   obtain⟨c,hc,rfl,hN⟩:=hrel;clear h0;by_cases hlt:c<k
   .have hx:bits .xor .i64 (i:Int) (c:Int)=((i^^^c:Nat):Int):=Nh _ _ ae ae;have hxl:=LD hi (show c<128 by omega);obtain⟨x,ex⟩:∃x,i^^^c=x:=⟨_,rfl⟩;rw[ex]at hx hxl
    have hcell:wr.cell? ⟨w.heap.size,c,none⟩=some (.int .u8 0):=by have:=hN.row.cell hlt;exact aqk
    have hfr:wr.frozen? ⟨w.heap.size,c,none⟩=false:=hN.row.frozen c
    have OH:=hN.set c (inv x) (g:=λj=>if j<c+1 then sQ k i j else 0) (λj hj=>by
     by_cases e:j=c
     .subst e;rw[aj (di j),aj rfl];unfold sQ;rw[ah hik,ex,bu ae]
     .rw[ah e];by_cases hj2:j<c
      .rw[aj hj2,aj ae]
      .rw[ah hj2,ah ae])
    clear ex hN
    go_wp2_with(first|(go_at_call 93;refine(aaP _ ae _).mono ?_;rintro e w' ⟨rfl,rfl⟩))
    go_roundw
    case rel=>exact⟨c+1,ae,aV,OH⟩
    case measure=>simp[intOf];omega
   .have e:c=k:=ae;subst e;go_wp2;go_ret;exact⟨rfl,hN.congr (λj hj=>aot)⟩
theorem BH(n:Nat)(hn:n<=128)(w:World):(Instr.makeSlice 28 (.int .i64 (n:Int)) (.int .i64 (n:Int))).run Tryz.prog w=.ok (.slice (some ⟨w.heap.size,0,none⟩) n n) (w.alloc (.cells (madeCells #[.slice none 0 0] n) 34)):=
 run_make_row' (P:=Tryz.prog) 28 34 (.slice none 0 0) 24 Tryz.underlying28 Tryz.aln rfl .i64 .i64 n ae ae w
def Xk(B k c i:Nat):Value:=if i<c then .slice (some ⟨B+1+i,0,none⟩) k k else .slice none 0 0
structure Ey(w w':World)(n k c:Nat)(f:Nat->Nat->Nat):Prop where
 head:w'.rowIs w.heap.size 34 n (Xk w.heap.size k c)
 rows:∀i,i<c->w'.rowIs (w.heap.size+1+i) 5 k (λj=>.int .u8 (f i j:Nat))
 size:w'.heap.size=w.heap.size+1+c
 below:Below w.heap.size w w'
theorem Rn(w:World)(n k:Nat)(f:Nat->Nat->Nat):Ey w (w.alloc (.cells (madeCells #[.slice none 0 0] n) 34)) n k 0 f:=
 ⟨(World.rowIs_made w (.slice none 0 0) n 34).congr (λi _=>by unfold Xk;rw[ah ae]),λi h=>ae,ai,(aA _ _).alloc (ak _) _⟩
theorem Rq(n k:Nat)(hn:n<=128)(f:Nat->Nat->Nat)(w:World):∃w1,(Instr.makeSlice 28 (.int .i64 (n:Int)) (.int .i64 (n:Int))).run Tryz.prog w=.ok (.slice (some ⟨w.heap.size,0,none⟩) n n) w1/\Ey w w1 n k 0 f:=
 ⟨_,BH n hn w,Rn w n k f⟩
theorem Ey.step{w wr w':World}{n k c:Nat}{f:Nat->Nat->Nat}(h:Ey w wr n k c f)(hn:yx wr w' k (f c)):
  Ey w (w'.setCell ⟨w.heap.size,c,none⟩ (.slice (some ⟨wr.heap.size,0,none⟩) k k)) n k (c+1) f:=by
 have hz:=h.size;have hb:∀j,j<wr.heap.size->w'.heap[j]?=wr.heap[j]?:=λj hj=>hn.below.block j hj
 refine⟨?_,?_,by rw[show(w'.setCell _ _).heap.size=w'.heap.size from by simp];rw[hn.size,hz];omega,(h.below.trans (hn.below.mono ae)).setCell (ak _) _⟩
 .refine((h.head.of_block (hb _ ae)).set c _).congr (λj _=>?_);unfold Xk;by_cases e:j=c
  .subst e;rw[aj rfl,aj ae,hz]
  .rw[ah e];by_cases hj:j<c
   .rw[aj hj,aj ae]
   .rw[ah hj,ah ae]
 .intro i hi;refine World.rowIs.setOther ?_ (by show w.heap.size+1+i≠w.heap.size;omega) _;by_cases e:i=c
  .subst e;have:=hn.row;rw[hz]at this;exact this
  .exact(h.rows i ae).of_block (hb _ ae)
def Va(w:World)(v:Value)(l:List UInt8):Prop:=
 (v=.slice none 0 0/\l=[])\/∃a cap,v=.slice (some a) l.length cap/\∀j (hj:j<l.length),w.cell? (a.add j)=some (.int .u8 (l[j].toNat:Int))
theorem Va.string{w:World}{v:Value}{l:List UInt8}(h:Va w v l):(convert 34 9 v).run Tryz.prog w=.ok (.string ⟨l.toArray⟩) w:=by
 rcases h with⟨rfl,rfl⟩|⟨a,cap,rfl,hc⟩
 .rw[run_convert_bytes_string w 34 9 5 none 0 0 Tryz.underlying34 Tryz.underlying5 Tryz.underlying9];rfl
 .exact run_convert_bytes_back w 34 9 5 a cap l Tryz.underlying34 Tryz.underlying5 Tryz.underlying9 hc
theorem afm(x:Int):∀u∈[Value.int .u8 x],u.oneCell'=true:=mW
theorem Vb{w wr w1:World}{e c:Nat}{v:Value}{xs:List Value}{o:Obj}(h:Below w.heap.size w wr)(hown:wr.ownsRow w.heap.size e 1 v c xs)(hg:(wr.alloc o).grownBy w1 v.ownBlock):Below w.heap.size w w1:=
 (h.alloc h.size o).grown hg (by have:=h.size;simp;omega) (λk hk=>(hown.lt k hk).1)
theorem ZI{P:Program}{o:Oper}{a:Act}{w:World}{K:Act->World->Prop}{Q:Exit->Act->World->Prop}{t:TypeId}{x:Operand}{N:Nat}{v:Value}(ho:o.op=.load t x)(hx:a.eval x=.pointer (some ⟨N,0,none⟩))(hl:(loadVar t ⟨N,0,none⟩).run P w=.ok v w)(h:K (a.put o.dst v) w):o.wp P a w K Q:=by unfold Oper.wp;rw[Na ho hx hl];exact h
theorem JV{w:World}{N:Nat}{c c':Array Value}(h:w.heap[N]?=some (.cells c 209))(hc:c.size=256)(hc':c'.size=256)(h1:∀v∈c',v.oneCell'=true):
  (storeCells ⟨N,0,none⟩ c'.toList).run Tryz.prog w=.ok () (w.setRow N c'):=by
 have:=run_storeCells_from (P:=Tryz.prog) N _ c'.toList 0 c w h az (λv hv=>h1 v (by simpa using hv));rw[this]
 congr 2
structure PT(w:World)(f m:Nat)(w':World):Prop where
 h2:w'.heap[w.heap.size]?=some (.cells Tryz.zeroCells209 209)
 h3:w'.heap[w.heap.size+1]?=some (.cells (yt f m) 209)
 size:w'.heap.size=w.heap.size+2
 below:Below w.heap.size w w'
theorem PT.start(w:World)(f:Nat):PT w f 1 ((w.alloc (.cells Tryz.zeroCells209 209)).alloc (.cells Tryz.zeroCells209 209)):=by
 have e:yt f 1=Tryz.zeroCells209:=by
  rw[Bl f,<-JA f 0];apply kR;intro i;rw[nY];by_cases h:0=i
  .subst h;rw[aj rfl,aj (by simp[yt]),zY f 0 0 ae,zero_mul];rfl
  .rw[ah h]
 refine⟨?_,?_,ai,((aA _ _).alloc (ak _) _).alloc ai _⟩
 .exact arv
 .show((w.heap.push _).push _)[w.heap.size+1]?=_;rw[gz,aj ai,e]
theorem PT.set{w w':World}{f m:Nat}(h:PT w f m w'):PT w f (m+1) (w'.setCell ⟨w.heap.size+1,m,none⟩ (.int .u8 ((mul m f:Nat):Int))):=
 ⟨(jA w' ⟨w.heap.size+1,m,none⟩ w.heap.size _ aol).trans h.h2,by rw[heap_set _ h.h3,JA],an7,h.below.setCell aom _⟩
theorem JW(f:Nat)(hf:f<256)(w:World):
  Calls Tryz.prog 118 #[.int .u8 (f:Int)] w λe w'=>e=.returned (.agg (yt f 256))/\Below w.heap.size w w':=by
 have h0:=PT.start w f;generalize hz:Tryz.zeroCells209=Z at h0;go_enter Tryz.func118,Tryz.ntmps118;go_wp2;generalize(w.alloc (Obj.cells Z 209)).alloc (Obj.cells Z 209)=w0 at h0⊢;subst hz
 go_loopw [0,4] (λvf vb wr=>∃k b fa:Nat,k<=8/\aaQ k b/\(k<8->fa=mul b f)/\fa<256/\vf=.int .u8 (fa:Int)/\vb=.int .i64 (b:Int)/\PT w f b wr) (λ_ b _=>512-(intOf b).toNat)
 case atStart=>exact⟨0,1,f,ae,rfl,λ_=>by rw[mul_comm ae hf,mul_one hf],hf,rfl,rfl,h0⟩
 case round=>
  clear h0;obtain⟨k,b,fa,hk,hbk,hfa,hfl,rfl,rfl,hT⟩:=hrel
  have hk8:b<=256:=by exact ari
  have hb1:1<=b:=aps;by_cases hlt:b<256
  .have hk7:k<8:=by
    rcases aT k 8 with h|h
    .exact h
    .obtain rfl:k=8:=ae;have:b=256:=hbk;omega
   obtain rfl:=hfa hk7;clear hfa;have hlt':(b:Int)<256:=ae;go_wp2
   go_loopw [11] (λvj wr=>∃j:Nat,j<=b/\vj=.int .i64 (j:Int)/\PT w f (b+j) wr) (λj _=>b-(intOf j).toNat)
   case atStart=>exact⟨0,ae,rfl,hT⟩
   case round=>
    clear hT;obtain⟨j,hj,rfl,hT⟩:=hrel;by_cases hjb:j<b
    .have hjb':(j:Int)<(b:Int):=ae
     have hbj:b+j<256:=by have:∀k:Fin 8,2^k.val*2<=256:=au;have:=this ⟨k,hk7⟩;have e:b=2^k:=hbk;simp only at this;omega
     have ev:mul (b+j) f=mul j f^^^mul b f:=by have e:b=2^k:=hbk;rw[e];exact pow_add ⟨k,hk7⟩ j f (by rw[<-e];exact hjb)
     have c1:wr.cell? ⟨w.heap.size+1,j,none⟩=some (.int .u8 ((mul j f:Nat):Int)):=by rw[cell_of _ hT.h3,zY _ _ _ ae,aj ae]
     have c2:wr.cell? ⟨w.heap.size+1,b+j,none⟩=some (.int .u8 0):=by rw[cell_of _ hT.h3,zY _ _ _ hbj,ah ae];rfl
     have f2:wr.frozen? ⟨w.heap.size+1,b+j,none⟩=false:=uI _ hT.h3 _;have hm1:mul j f<256:=mul_lt ae;have hx:bits .xor .u8 ((mul j f:Nat):Int) ((mul b f:Nat):Int)=((mul (b+j) f:Nat):Int):=by rw[ev];exact u8_xor_nat _ _ hm1 hfl
     have hT2:=hT.set;generalize mul (b+j) f=q at hT2 hx;generalize mul j f=p at c1 hx hm1;clear ev;go_wp2
     go_roundw
     case rel=>exact⟨j+1,ae,aV,hT2⟩
     case measure=>simp[intOf];omega
    .obtain rfl:j=b:=ae;have hnl:¬((j:Int)<(j:Int)):=ae;have hkb:k+1<=8:=ae
     have htx:k+1<8->tx (mul j f)=mul (j+j) f:=λh=>by have e:j=2^k:=hbk;have:=adK ⟨k,ae⟩ ⟨f,hf⟩;rw[e,show 2^k+2^k=2^(k+1)by omega];exact this
     have hp2:aaQ (k+1) (j+j):=by have e:j=2^k:=hbk;show j+j=2^(k+1);omega
     have htl:=Io hfl;have hct:=O9 (mul j f) hfl;generalize mul j f=fa at*
     go_wp2_with(first|(go_at_call 128;(with_reducible refine(hct _).mono ?_);rintro e w' ⟨rfl,hw'⟩;obtain rfl:=hw'.symm))
     go_roundw
     case rel=>exact⟨k+1,j+j,tx fa,hkb,hp2,htx,htl,rfl,aV,hT⟩
     case measure=>simp[intOf];omega
  .have e:b=256:=ae;subst e;have hl:=FQ hT.h3 (tH f 256);have hs:=JV hT.h2 aoI (tH f 256) (FT f 256);have hrow:=JD (yt f 256) hT.h2;have hb2:Below w.heap.size w (wr.setRow w.heap.size (yt f 256)):=⟨hT.below.os,hT.below.tape,hT.below.output,by rw[vM];exact hT.below.size,λk hk=>(sJ wr _ ae).trans (hT.below.block k hk)⟩;have hsz:=tH f 256;generalize hTT:yt f 256=T at*;go_wp2;refine ZI rfl rfl hl ?_
   apply_assumption
   go_wp2;refine fU (mY (p:=2) rfl _ _ w.heap.size 209 _ (0,0) _ ax hrow Tryz.underlying209 rfl (by rw[hsz];exact agW)) rfl ?_;exact⟨by rw[hTT],hb2⟩
end Go.Proofs.Y
namespace Go.Proofs.Y
abbrev F:=Fin 256
namespace F
def add(a b:F):F:=⟨a.val^^^b.val,Am a.isLt b.isLt⟩
def mu(a b:F):F:=⟨mul a.val b.val,mul_lt a.isLt⟩
def iv(a:F):F:=⟨inv a.val,aeC a.isLt⟩
theorem add_comm(a b:F):add a b=add b a:=dW (jD _ _)
theorem add_assoc(a b c:F):add (add a b) c=add a (add b c):=dW (dG _ _ _)
theorem Gt(a b c:F):add a (add b c)=add b (add a c):=by rw[<-add_assoc,add_comm a b,add_assoc]
theorem Aa(a:F):add a a=0:=dW (lT _)
theorem add_zero(a:F):add a 0=a:=dW (ni _)
theorem zero_add(a:F):add 0 a=a:=by rw[add_comm,add_zero]
theorem Iu(a b:F):add a (add a b)=b:=by rw[<-add_assoc,Aa,zero_add]
theorem xn(a b:F):mu a b=mu b a:=dW (mul_comm a.isLt b.isLt)
theorem BM(a b c:F):mu (mu a b) c=mu a (mu b c):=dW (mul_assoc a.isLt b.isLt c.isLt).symm
theorem Ez(a b c:F):mu a (mu b c)=mu b (mu a c):=by rw[<-BM,xn a b,BM]
theorem Ja(a b c:F):mu a (add b c)=add (mu a b) (mu a c):=dW (uQ _ _ a.isLt)
theorem afn(a b c:F):mu (add a b) c=add (mu a c) (mu b c):=dW (vK _ a.isLt b.isLt)
theorem CQ(a:F):mu a 0=0:=dW (mul_zero a.val)
theorem A7(a:F):mu 0 a=0:=by rw[xn,CQ]
theorem ZJ(a:F):mu a 1=a:=dW (mul_one a.isLt)
theorem yX(a:F):mu 1 a=a:=by rw[xn,ZJ]
theorem Gu{a:F}(h:a≠0):mu a (iv a)=1:=dW (ahs a.isLt λe=>h (dW e))
theorem afo{a:F}(h:a≠0):mu (iv a) a=1:=by rw[xn,Gu h]
theorem afp:(1:F)≠0:=au
theorem acu{a b:F}(h:add a b=0):a=b:=by have:=aP (add a) h;rw[Iu,add_zero]at this;exact this.symm
theorem LZ{a b:F}(h:a≠b):add a b≠0:=λe=>h (acu e)
theorem Hy{a b c:F}(ha:a≠0)(h:mu a b=mu a c):b=c:=by have:=aP (mu (iv a)) h;rwa[<-BM,<-BM,afo ha,yX,yX]at this
theorem alo{a:F}(ha:a≠0):iv a≠0:=λe=>afp (by rw[<-Gu ha,e,CQ])
theorem key{u a b z:F}(h1:add u b≠0)(h2:add z b≠0)(h3:add u z≠0)(h4:add a z≠0)(x:F):
  add (mu (iv (add u z)) (mu x (mu (add a z) (iv (add z b))))) (mu (mu (add a b) (iv (add u b))) (mu (iv (add a z)) (mu x (mu (add a z) (iv (add z b))))))=mu (mu (add u a) (iv (add u b))) (mu (iv (add u z)) x):=by
 have e4:mu (iv (add a z)) (mu x (mu (add a z) (iv (add z b))))=mu x (iv (add z b)):=by rw[Ez x,<-BM,afo h4,yX]
 rw[e4];apply Hy h1;apply Hy h2;apply Hy h3
 have t1:mu (add u z) (mu (add z b) (mu (add u b) (mu (iv (add u z)) (mu x (mu (add a z) (iv (add z b)))))))=mu x (mu (add a z) (add u b)):=by
  calc _=mu (mu (add u z) (iv (add u z))) (mu (mu (add z b) (iv (add z b))) (mu x (mu (add a z) (add u b)))):=by simp only[xn,Ez]
   _=_:=by rw[Gu h3,Gu h2,yX,yX]
 have t2:mu (add u z) (mu (add z b) (mu (add u b) (mu (mu (add a b) (iv (add u b))) (mu x (iv (add z b))))))=mu x (mu (add a b) (add u z)):=by
  calc _=mu (mu (add u b) (iv (add u b))) (mu (mu (add z b) (iv (add z b))) (mu x (mu (add a b) (add u z)))):=by simp only[xn,Ez]
   _=_:=by rw[Gu h1,Gu h2,yX,yX]
 have t3:mu (add u z) (mu (add z b) (mu (add u b) (mu (mu (add u a) (iv (add u b))) (mu (iv (add u z)) x))))=mu x (mu (add u a) (add z b)):=by
  calc _=mu (mu (add u b) (iv (add u b))) (mu (mu (add u z) (iv (add u z))) (mu x (mu (add u a) (add z b)))):=by simp only[xn,Ez]
   _=_:=by rw[Gu h1,Gu h3,yX,yX]
 rw[Ja (add u b),Ja (add z b),Ja (add u z),t1,t2,t3,<-Ja];refine aP (mu x) ?_;simp only[Ja,afn];simp only[xn,add_assoc,add_comm,Gt,Iu,Aa,zero_add]
def sum:List Nat->(Nat->F)->F
 |[],_=>0
 |i::l,f=>add (f i) (sum l f)
theorem Bz{l:List Nat}{f g:Nat->F}(h:∀i∈l,f i=g i):sum l f=sum l g:=by
 induction l with
 |nil=>rfl
 |cons i l ih=>rw[sum,sum,h i ai,ih λj hj=>h j jq]
theorem sum_add(l:List Nat)(f g:Nat->F):sum l (λi=>add (f i) (g i))=add (sum l f) (sum l g):=by
 induction l with
 |nil=>exact(add_zero 0).symm
 |cons i l ih=>simp only[sum,ih,add_assoc,Gt]
theorem Vd(l:List Nat)(c:F)(f:Nat->F):sum l (λi=>mu c (f i))=mu c (sum l f):=by
 induction l with
 |nil=>exact(CQ c).symm
 |cons i l ih=>rw[sum,sum,ih,Ja]
theorem afq(l:List Nat){f:Nat->F}(h:∀i∈l,f i=0):sum l f=0:=by
 induction l with
 |nil=>rfl
 |cons i l ih=>rw[sum,h i ai,ih λj hj=>h j jq,add_zero]
theorem ZK(l:List Nat)(p:Nat->Bool)(f:Nat->F)(h:∀i∈l,p i=false->f i=0):sum (l.filter p) f=sum l f:=by
 induction l with
 |nil=>rfl
 |cons i l ih=>
  have:=ih λj hj=>h j jq
  cases hp:p i with
  |true=>rw[List.filter_cons_of_pos oJ,sum,sum,this]
  |false=>rw[List.filter_cons_of_neg oJ,sum,this,h i ai hp,zero_add]
theorem EC{l:List Nat}(hl:l.Nodup){f:Nat->F}{t:Nat}(ht:t∈l)(h:∀i∈l,i≠t->f i=0):sum l f=f t:=by
 induction l with
 |nil=>cases ht
 |cons i l ih=>
  rw[List.nodup_cons]at hl;rw[sum];rcases dw.1 ht with rfl|ht'
  .rw[afq l λj hj=>h j jq (λe=>hl.1 (e▸hj)),add_zero]
  .rw[h i ai (λe=>hl.1 (e▸ht')),zero_add];exact ih hl.2 ht' λj hj hne=>h j jq hne
theorem afr(a b:Nat->F):∀(V:List Nat),V.Nodup->(∀s∈V,∀j∈V,a s≠b j/\(s≠j->a s≠a j/\b s≠b j))->∀y:Nat->F,∃x:Nat->F,(∀j,j∉V->x j=0)/\∀s∈V,sum V (λj=>mu (iv (add (a s) (b j))) (x j))=y s
 |[],_,_,_=>⟨λ_=>0,λ_ _=>rfl,λ_ h=>dZ⟩
 |t::V,hn,hd,y=>by
  rw[List.nodup_cons]at hn;have hd':∀s∈V,∀j∈V,a s≠b j/\(s≠j->a s≠a j/\b s≠b j):=λs hs j hj=>hd s (by simp[hs]) j jq
  have ne:∀s∈V,t≠s:=λs hs e=>hn.1 (e▸hs)
  let c:Nat->F:=λs=>mu (add (a t) (b t)) (iv (add (a s) (b t)))
  let d:Nat->F:=λs=>mu (add (a s) (b t)) (iv (add (a s) (a t)))
  obtain⟨x',hx0,hx⟩:=afr a b V hn.2 hd' (λs=>mu (add (y s) (mu (c s) (y t))) (d s))
  let x1:Nat->F:=λj=>mu (x' j) (mu (add (a t) (b j)) (iv (add (b j) (b t))))
  let xt:F:=mu (add (a t) (b t)) (add (y t) (sum V λj=>mu (iv (add (a t) (b j))) (x1 j)))
  have htt:add (a t) (b t)≠0:=LZ (hd t ai t ai).1;have hsum:∀s,sum V (λj=>mu (iv (add (a s) (b j))) (if j=t then xt else x1 j))=sum V (λj=>mu (iv (add (a s) (b j))) (x1 j)):=λs=>Bz λj hj=>by rw[ah (λe=>ne j hj e.symm)]
  refine⟨λj=>if j=t then xt else x1 j,λj hj=>?_,λs hs=>?_⟩
  .simp only[dw,not_or]at hj;simp only[ah hj.1];show mu (x' j) _=0;rw[hx0 j hj.2,A7]
  rw[sum,hsum];simp only[aF];by_cases hst:s=t
  .subst hst;show add (mu (iv (add (a s) (b s))) (mu (add (a s) (b s)) _)) _=_;rw[<-BM,afo htt,yX,add_assoc,Aa,add_zero]
  .have hsV:s∈V:=by simpa[hst]using hs
   have hst':add (a s) (b t)≠0:=LZ (hd s hs t ai).1;have hsa:add (a s) (a t)≠0:=LZ ((hd s hs t ai).2 hst).1
   have e1:mu (iv (add (a s) (b t))) xt=add (mu (c s) (y t)) (sum V λj=>mu (c s) (mu (iv (add (a t) (b j))) (x1 j))):=by rw[Vd,<-Ja];show mu (iv (add (a s) (b t))) (mu (add (a t) (b t)) _)=mu (mu (add (a t) (b t)) (iv (add (a s) (b t)))) _;rw[<-BM,xn (iv _) (add (a t) (b t))]
   have e2:add (sum V λj=>mu (c s) (mu (iv (add (a t) (b j))) (x1 j))) (sum V λj=>mu (iv (add (a s) (b j))) (x1 j))=add (y s) (mu (c s) (y t)):=by
    rw[<-sum_add]
    have:∀j∈V,add (mu (c s) (mu (iv (add (a t) (b j))) (x1 j))) (mu (iv (add (a s) (b j))) (x1 j))=mu (mu (add (a s) (a t)) (iv (add (a s) (b t)))) (mu (iv (add (a s) (b j))) (x' j)):=by intro j hj;rw[add_comm];exact key hst' (LZ ((hd j jq t ai).2 (λe=>ne j hj e.symm)).2) (LZ (hd' s hsV j hj).1) (LZ (hd t ai j jq).1) (x' j)
    rw[Bz this,Vd,hx s hsV];show mu (mu (add (a s) (a t)) (iv (add (a s) (b t)))) (mu _ (mu (add (a s) (b t)) (iv (add (a s) (a t)))))=_
    have:∀q p p' r r':F,mu p p'=1->mu r r'=1->mu (mu p r') (mu q (mu r p'))=q:=λq p p' r r' hp hr=>by
     calc _=mu (mu p p') (mu (mu r r') q):=by simp only[xn,Ez]
      _=q:=by rw[hp,hr,yX,yX]
    exact this _ _ _ _ _ (Gu hsa) (Gu hst')
   rw[e1,add_assoc,e2,Gt,add_comm (mu _ _) (mu _ _),Aa,add_zero]
end F
end Go.Proofs.Y
namespace Go.Proofs.Y
namespace F
def dot(k:Nat)(r x:Nat->F):F:=sum (List.range k) λj=>mu (r j) (x j)
structure Sq(k:Nat)(px:Nat->F)(M:Nat->Nat->F):Prop where
 unit:∀s,s<k->(px s).val<k->(px s).val=s/\∀j,j<k->M s j=if j=s then 1 else 0
 inv:∀s,s<k->k<=(px s).val->∀j,j<k->M s j=iv (add (px s) (Fin.ofNat 256 j))
 inj:∀s j,s<k->j<k->s≠j->px s≠px j
 small:k<=256
theorem xO{k:Nat}{r x:Nat->F}{s:Nat}(hs:s<k)(h:∀j,j<k->r j=if j=s then 1 else 0):dot k r x=x s:=by
 have:=EC (l:=List.range k) j_ (f:=λj=>mu (r j) (x j)) (t:=s) (by simpa using hs) (λi hi hne=>by simp only[gp]at hi;simp only[h i hi,ah hne,A7])
 rw[dot,this];simp only[h s hs,aF,yX]
theorem aj0{k:Nat}{px:Nat->F}{M:Nat->Nat->F}(h:Sq k px M){t:Nat}(ht:t<k):∃x:Nat->F,(∀j,t<j->x j=0)/\(∀s,s<t->dot k (M s) x=0)/\dot k (M t) x=1:=by
 let b:Nat->F:=λj=>Fin.ofNat 256 j
 have bv:∀j,j<k->(b j).val=j:=λj hj=>bu (aN hj h.small)
 have key:∀(V:List Nat),V.Nodup->(∀s∈V,s<k/\k<=(px s).val)->∀y:Nat->F,∃x:Nat->F,(∀j,j∉V->x j=0)/\∀s∈V,sum V (λj=>mu (iv (add (px s) (b j))) (x j))=y s:=λV hn hV y=>
  afr px b V hn (λs hs j hj=>⟨λe=>by have:=aP Fin.val e;rw[bv j (hV j hj).1]at this;have:=(hV s hs).2;have:=(hV j hj).1;omega,λhne=>⟨h.inj s j (hV s hs).1 (hV j hj).1 hne,λe=>hne (by have:=aP Fin.val e;rwa[bv s (hV s hs).1,bv j (hV j hj).1]at this)⟩⟩) y
 have full:∀(p:Nat->Bool)(x:Nat->F)(s:Nat),s<k->k<=(px s).val->(∀j,j∉(List.range k).filter p->x j=0)->dot k (M s) x=sum ((List.range k).filter p) (λj=>mu (iv (add (px s) (b j))) (x j)):=λp x s hs hp hx=>by
  rw[ZK,dot]
  .exact Bz λj hj=>by rw[h.inv s hs hp j iR]
  .intro j hj hpj;rw[hx j (by simp[hpj]),CQ]
 by_cases htu:(px t).val<k
 ·
  let p:Nat->Bool:=λs=>decide (s<t)&&decide (k<=(px s).val)
  obtain⟨x,hx0,hx⟩:=key ((List.range k).filter p) (j_.filter _) (λs hs=>by simp[p]at hs;omega) (λs=>iv (add (px s) (b t)));have hxt:x t=0:=hx0 t (by simp[p])
  have split:∀s,dot k (M s) (λj=>if j=t then 1 else x j)=add (dot k (M s) x) (M s t):=λs=>by
   have e1:∀j∈List.range k,mu (M s j) (if j=t then 1 else x j)=add (mu (M s j) (x j)) (if j=t then M s t else 0):=λj _=>by
    by_cases hj:j=t
    .subst hj;simp only[aF,hxt,CQ,zero_add,ZJ]
    .simp only[ah hj,add_zero]
   rw[dot,Bz e1,sum_add]
   congr 1
   rw[EC (l:=List.range k) j_ (t:=t) mD (λi _ hne=>by simp only[ah hne])];simp only[aF]
  refine⟨λj=>if j=t then 1 else x j,λj hj=>?_,λs hs=>?_,?_⟩
  .simp only[ah (show j≠t by omega)];exact hx0 j jK
  .by_cases hsu:(px s).val<k
   .rw[xO ae (h.unit s ae hsu).2];simp only[ah (show s≠t by omega)];exact hx0 s jK
   .have hsV:s∈(List.range k).filter p:=jK;rw[split,full p x s ae ae hx0,hx s hsV,h.inv s ae ae t ht];exact Aa _
  .rw[xO ht (h.unit t ht htu).2];simp only[aF]
 .let p:Nat->Bool:=λs=>decide (s<=t)&&decide (k<=(px s).val)
  obtain⟨x,hx0,hx⟩:=key ((List.range k).filter p) (j_.filter _) (λs hs=>by simp[p]at hs;omega) (λs=>if s=t then 1 else 0);refine⟨x,λj hj=>hx0 j jK,λs hs=>?_,?_⟩
  .by_cases hsu:(px s).val<k
   .rw[xO ae (h.unit s ae hsu).2];exact hx0 s jK
   .rw[full p x s ae ae hx0,hx s jK];simp only[ah (show s≠t by omega)]
  .rw[full p x t ht ae hx0,hx t jK];simp only[aF]
structure Gj(k:Nat)(M:Nat->Nat->F)(t:Nat)(A B:Nat->Nat->F):Prop where
 same:∀x y:Nat->F,(∀i,i<k->dot k (A i) x=dot k (B i) y)↔∀i,i<k->dot k (M i) x=y i
 left:∀i s,i<k->s<t->A i s=if s=i then 1 else 0
 right:∀i s,i<k->t<=s->s<k->B i s=if s=i then 1 else 0
theorem afs(k:Nat)(M:Nat->Nat->F):Gj k M 0 M (λi j=>if j=i then 1 else 0):=
 ⟨λx y=>forall_congr' λi=>forall_congr' λhi=>by rw[xO (r:=λj=>if j=i then 1 else 0) hi λ_ _=>rfl],
  λ_ _ _ h=>absurd h ae,λ_ _ _ _ _=>rfl⟩
theorem pivot{k:Nat}{px:Nat->F}{M A B:Nat->Nat->F}{t:Nat}(h:Sq k px M)(hg:Gj k M t A B)(ht:t<k):A t t≠0:=by
 obtain⟨x,hx0,hxs,hxt⟩:=aj0 h ht;have:=(hg.same x (λi=>dot k (M i) x)).2 (λ_ _=>rfl) t ht
 have e1:dot k (A t) x=mu (A t t) (x t):=EC j_ mD λi hi hne=>by
  rcases aT i t with hlt|hge
  .rw[hg.left t i ht hlt,ah hne,A7]
  .rw[hx0 i ae,CQ]
 have e2:dot k (B t) (λi=>dot k (M i) x)=1:=by
  have e3:dot k (B t) (λi=>dot k (M i) x)=mu (B t t) (dot k (M t) x):=EC j_ mD λi hi hne=>by
   rcases aT i t with hlt|hge
   .show mu (B t i) (dot k (M i) x)=0;rw[hxs i hlt,CQ]
   .rw[hg.right t i ht hge mG,ah hne,A7]
  rw[e3,hxt,hg.right t t ht (ak _) ht];simp only[aF,ZJ]
 rw[e1,e2]at this;intro e;rw[e,A7]at this;exact afp this.symm
def scaled(c:F)(r:Nat->F):Nat->F:=λj=>mu (r j) c
def added(c:F)(r q:Nat->F):Nat->F:=λj=>add (r j) (mu (q j) c)
theorem ED(k:Nat)(c:F)(r x:Nat->F):dot k (scaled c r) x=mu c (dot k r x):=by rw[dot,dot,<-Vd];exact Bz λj _=>by simp only[scaled,xn,Ez]
theorem TP(k:Nat)(c:F)(r q x:Nat->F):dot k (added c r q) x=add (dot k r x) (mu c (dot k q x)):=by
 rw[dot,dot,dot,<-Vd,<-sum_add]
 exact Bz λj _=>by rw[added,afn];simp only[xn,Ez]
def Iw(A:Nat->Nat->F)(t i:Nat):Nat->F:=if i=t then scaled (iv (A t t)) (A t)else added (A i t) (A i) (scaled (iv (A t t)) (A t))
def Iy(A B:Nat->Nat->F)(t i:Nat):Nat->F:=if i=t then scaled (iv (A t t)) (B t)else added (A i t) (B i) (scaled (iv (A t t)) (B t))
theorem ahJ{k:Nat}{px:Nat->F}{M A B:Nat->Nat->F}{t:Nat}(h:Sq k px M)(hg:Gj k M t A B)(ht:t<k):Gj k M (t+1) (Iw A t) (Iy A B t):=by
 have hp:=pivot h hg ht;refine⟨λx y=>?_,λi s hi hs=>?_,λi s hi hs hs'=>?_⟩
 .rw[<-hg.same x y];constructor
  .intro e i hi;have et:=e t ht;simp only[Iw,Iy,aF,ED]at et;have et':=Hy (alo hp) et;by_cases hit:i=t
   .subst hit;exact et'
   .have ei:=e i hi;simp only[Iw,Iy,ah hit,TP,ED,et']at ei;have:=aP (add (mu (A i t) (mu (iv (A t t)) (dot k (B t) y)))) ei;rwa[Gt,Aa,add_zero,Gt,Aa,add_zero]at this
  .intro e i hi;by_cases hit:i=t
   .subst hit;simp only[Iw,Iy,aF,ED,e i hi]
   .simp only[Iw,Iy,ah hit,TP,ED,e i hi,e t ht]
 .have tt:∀s,s<t+1->scaled (iv (A t t)) (A t) s=if s=t then 1 else 0:=λs hs=>by
   by_cases hst:s=t
   .subst hst;simp only[scaled,aF,Gu hp]
   .simp only[scaled,hg.left t s ht ae,ah hst,A7]
  by_cases hit:i=t
  .subst hit;simp only[Iw,aF];exact tt s hs
  .simp only[Iw,ah hit,added,tt s hs];by_cases hst:s=t
   .subst hst;simp only[aF,yX,Aa];rw[ah (λe=>hit e.symm)]
   .simp only[ah hst,A7,add_zero];exact hg.left i s hi ae
 .have tt:∀s,t+1<=s->s<k->scaled (iv (A t t)) (B t) s=0:=λs hs hs'=>by
   simp only[scaled,hg.right t s ht ae hs',ah (show s≠t by omega),A7]
  by_cases hit:i=t
  .subst hit;simp only[Iy,aF];rw[tt s hs hs',ah ae]
  .simp only[Iy,ah hit,added,tt s hs hs',A7,add_zero];exact hg.right i s hi ae hs'
theorem aji{k:Nat}{M A B:Nat->Nat->F}(hg:Gj k M k A B)(y:Nat->F):∀i,i<k->dot k (M i) (λj=>dot k (B j) y)=y i:=by
 refine(hg.same (λj=>dot k (B j) y) y).1 λi hi=>?_
 rw[xO hi λj hj=>by rw[hg.left i j hi hj]]

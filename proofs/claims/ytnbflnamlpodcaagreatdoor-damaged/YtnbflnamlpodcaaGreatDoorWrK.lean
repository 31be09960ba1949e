import Derived.Test.YtnbflnamlpodcaaGreatDoorAdC
set_option maxHeartbeats 4000000
set_option maxRecDepth 100000
namespace Go.Proofs.Y
open Go.Proofs.Tryz
open Go.RowKit Go.Deep Go.Lf Go.Conc Go.Hp
noncomputable def yg:Code:=Tryz.f11.body.getD .skip
noncomputable def aai:Code:=qo (qo (qo (qo yg)))
noncomputable def acK:Code:=qo aai
theorem afD:yg=.seq (qJ yg) (.seq (qJ (qo yg)) (.seq (qJ (qo (qo yg))) (.seq (qJ (qo (qo (qo yg)))) aai))):=ag
noncomputable def YC:{y:Array Oper//y=uk (qJ aai)}:=⟨_,by(simp only[aai,yg,qJ,qo,uk,Tryz.f11,aB];rfl)⟩
noncomputable def RX:Array Oper:=YC.1
theorem ak8:aai=.seq (.region 11 RX false) acK:=ag
theorem afE:RX.size=7:=ag
theorem ak7:∃fn,prog.funcs[11]?=some fn:=⟨_,func11⟩
def Tdc(f:Nat->Value)(a0 a5 a6 a12 a13:Value):Array Value:=#[a0,f 1,f 2,f 3,f 4,a5,a6,f 7,f 8,f 9,f 10,f 11,a12,a13,f 14,f 15,f 16,f 17,f 18,f 19,f 20,f 21,f 22,f 23,f 24,f 25,f 26,f 27,f 28,f 29,f 30,f 31,f 32,f 33,f 34,f 35,f 36,f 37,f 38,f 39,f 40,f 41,f 42,f 43,f 44,f 45,f 46,f 47,f 48,f 49,f 50,f 51,f 52,f 53,f 54,f 55]
theorem acJ{T:Array Value}(h:T=#[T.getD 0 undef,T.getD 1 undef,T.getD 2 undef,T.getD 3 undef,T.getD 4 undef,T.getD 5 undef,T.getD 6 undef,T.getD 7 undef,T.getD 8 undef,T.getD 9 undef,T.getD 10 undef,T.getD 11 undef,T.getD 12 undef,T.getD 13 undef,T.getD 14 undef,T.getD 15 undef,T.getD 16 undef,T.getD 17 undef,T.getD 18 undef,T.getD 19 undef,T.getD 20 undef,T.getD 21 undef,T.getD 22 undef,T.getD 23 undef,T.getD 24 undef,T.getD 25 undef,T.getD 26 undef,T.getD 27 undef,T.getD 28 undef,T.getD 29 undef,T.getD 30 undef,T.getD 31 undef,T.getD 32 undef,T.getD 33 undef,T.getD 34 undef,T.getD 35 undef,T.getD 36 undef,T.getD 37 undef,T.getD 38 undef,T.getD 39 undef,T.getD 40 undef,T.getD 41 undef,T.getD 42 undef,T.getD 43 undef,T.getD 44 undef,T.getD 45 undef,T.getD 46 undef,T.getD 47 undef,T.getD 48 undef,T.getD 49 undef,T.getD 50 undef,T.getD 51 undef,T.getD 52 undef,T.getD 53 undef,T.getD 54 undef,T.getD 55 undef]):T=Tdc (λi=>T.getD i undef) (T.getD 0 undef) (T.getD 5 undef) (T.getD 6 undef) (T.getD 12 undef) (T.getD 13 undef):=h
def TE1(gv n:Nat)(vt:Value)(T:Array Value):Prop:=∃f:Nat->Value,T=Tdc f (f 0) (.slice (some ⟨gv,0,none⟩) n n) vt (f 12) (f 13)
def TE2(gv n:Nat)(vb ve:Value)(T:Array Value):Prop:=∃f:Nat->Value,T=Tdc f (f 0) (.slice (some ⟨gv,0,none⟩) n n) (f 6) vb ve
noncomputable def ahy(T:Array Value):Frame:=(base 11).at ⟨T,[]⟩ (.inRegion RX [1,2,3,4,5,6]::[.code acK])
def okS(l:List UInt8):Option xg:=match qP l with| .ok s=>some s| .error _=>none
def erS(l:List UInt8):Nat:=match qP l with| .ok _=>0| .error e=>e.1
def MC(bs:Nat->List UInt8)(j:Nat):List xg:=(List.range j).filterMap λi=>okS (bs i)
theorem ahx{bs:Nat->List UInt8}{j:Nat}{s:xg}(h:qP (bs j)=.ok s):MC bs (j+1)=MC bs j++[s]:=by simp[MC,dC,okS,h]
theorem ahw{bs:Nat->List UInt8}{j:Nat}{e:Nat×Nat}(h:qP (bs j)=.error e):MC bs (j+1)=MC bs j:=by simp[MC,dC,okS,h]
def shD:xg:=⟨0,0,0,0,[],[],[]⟩
def Ai(ts:List xg)(i:Nat):xg:=ts.getD i shD
theorem ack{ts:List xg}{s:xg}{i:Nat}(h:i<ts.length):Ai (ts++[s]) i=Ai ts i:=by simp[Ai,fF h]
theorem acm{ts:List xg}{s:xg}:Ai (ts++[s]) ts.length=s:=by simp[Ai]
def Vz(S:Nat->List Value)(n:Nat):List Value:=(List.range n).flatMap S
theorem Nk(S:Nat->List Value)(n:Nat):Vz S (n+1)=Vz S n++S n:=by simp[Vz,dC]
theorem acn{S S':Nat->List Value}{n:Nat}(h:∀i,i<n->S i=S' i):Vz S n=Vz S' n:=by
 induction n with
 |zero=>rfl
 |succ n ih=>rw[Nk,Nk,ih λi hi=>h i ae,h n ae]
structure Tk(B:Nat)(ts:List xg)(vN vS vC:Nat->Value)(vt:Value)(w:World):Prop where
 own:w.ownsRow B 55 7 vt ts.length (Vz (λi=>VR (Ai ts i) (vN i) (vS i) (vC i)) ts.length)
 nm:∀i,i<ts.length->w.ownsRow B 9 1 (vN i) (Ai ts i).names.length (wO (Ai ts i).names)
 sz:∀i,i<ts.length->w.ownsRow B 3 1 (vS i) (Ai ts i).sizes.length (zF (Ai ts i).sizes)
 cl:∀i,i<ts.length->w.ownsRow B 5 1 (vC i) (Ai ts i).qy.length (r_ (Ai ts i).qy)
theorem Tk.AV{B:Nat}{ts:List xg}{vN vS vC:Nat->Value}{vt:Value}{w w':World}(h:Tk B ts vN vS vC vt w)(hk:∀b,B<=b->b<w.heap.size->w'.heap[b]?=w.heap[b]?):Tk B ts vN vS vC vt w':=
 ⟨rX h.own λg hg=>hk g (h.own.lt g hg).1 (h.own.lt g hg).2,λi hi=>rX (h.nm i hi) λg hg=>hk g ((h.nm i hi).lt g hg).1 ((h.nm i hi).lt g hg).2,
  λi hi=>rX (h.sz i hi) λg hg=>hk g ((h.sz i hi).lt g hg).1 ((h.sz i hi).lt g hg).2,λi hi=>rX (h.cl i hi) λg hg=>hk g ((h.cl i hi).lt g hg).1 ((h.cl i hi).lt g hg).2⟩
theorem Tk.more{B:Nat}{ts:List xg}{vN vS vC:Nat->Value}{vt v':Value}{w w':World}{s:xg}{xN xS xC:Value}(h:Tk B ts vN vS vC vt w)(hN:w.ownsRow B 9 1 xN s.names.length (wO s.names))(hS:w.ownsRow B 3 1 xS s.sizes.length (zF s.sizes))(hC:w.ownsRow B 5 1 xC s.qy.length (r_ s.qy))
  (hg:w.grownBy w' vt.ownBlock) (ho:w'.ownsRow B 55 7 v' (ts.length+1) (Vz (λi=>VR (Ai ts i) (vN i) (vS i) (vC i)) ts.length++VR s xN xS xC)):
  Tk B (ts++[s]) (λi=>if i=ts.length then xN else vN i) (λi=>if i=ts.length then xS else vS i) (λi=>if i=ts.length then xC else vC i) v' w':=by
 have key:∀{t n:Nat}{v:Value}{xs:List Value},w.ownsRow B t 1 v n xs->t≠55->w'.ownsRow B t 1 v n xs:=λ{t n v xs} o ht=>rX o λg uB=>hg.block g (o.lt g uB).2 (λe=>EW o h.own ht uB e.symm);have hl:(ts++[s]).length=ts.length+1:=ai;refine⟨?_,λi hi=>?_,λi hi=>?_,λi hi=>?_⟩
 .rw[hl,Nk,acn (S':=λi=>VR (Ai ts i) (vN i) (vS i) (vC i)) λi hi=>by simp only[ah (show i≠ts.length by omega),ack hi]];simp only[aF,acm];exact ho
 all_goals
  by_cases e:i=ts.length
  .subst e;simp only[aF,acm]
   first|exact key hN au|exact key hS au|exact key hC au
  .have JQ:i<ts.length:=ae;simp only[ah e,ack JQ]
   first|exact key (h.nm i JQ) au|exact key (h.sz i JQ) au|exact key (h.cl i JQ) au
theorem Tk.sds{B:Nat}{ts:List xg}{vN vS vC:Nat->Value}{vt:Value}{w:World}(h:Tk B ts vN vS vC vt w)(hG:∀s∈ts,ShG s):∃bo cap,vt=.slice bo ts.length cap/\TQ w bo ts.length (Ai ts) vN vS vC:=by
 have hG':∀i,i<ts.length->ShG (Ai ts i):=λi hi=>hG _ (by simp[Ai,a_ hi])
 have hv:∃bs cp,vt=.slice bs ts.length cp/\(0<ts.length->∃g,bs=some ⟨g,0,none⟩):=by
  rcases h.own.2 with⟨h1,h0⟩|⟨g,c,_,h1,_⟩
  .exact⟨none,0,by rw[h1,h0],λh=>ae⟩
  .exact⟨_,c,h1,λ_=>⟨g,rfl⟩⟩
 obtain⟨bs,cp,rfl,hbs⟩:=hv
 have O0:∀i,i<ts.length->(Ai ts i).names.length<=1048576/\(Ai ts i).sizes.length<=1048576:=λi hi=>by have h1:=(hG' i hi).few.aho;have h2:=(hG' i hi).ln;simp only[xg.sh]at h1;omega
 refine⟨bs,cp,rfl,λhn=>?_,λi hi=>⟨qR.owned (h.nm i hi),(O0 i hi).1⟩,λi hi=>⟨qR.owned (h.sz i hi),(O0 i hi).2⟩,λi hi=>qR.owned (h.cl i hi),λi hi=>by have:=(hG' i hi).k1;omega⟩;obtain⟨g,rfl⟩:=hbs hn;have hr:∀i,i<ts.length->w.rangeAt g (i*7) (VR (Ai ts i) (vN i) (vS i) (vC i)):=λi hi=>yM (c:=λe=>VR (Ai ts e.l) (vN e.l) (vS e.l) (vC e.l)) (f:=λi=>⟨[],none,i,0⟩) (λ_=>rfl) h.own hi
 exact⟨g,0,rfl,rM (hr 0 hn 0 _ rfl),λi hi=>by rw[aT];exact hr i hi⟩
theorem W_{z:List UInt8}{s:xg}(h:qP z=.ok s):ShG s:=by obtain⟨h1,h2,h3,h4,_⟩:=Xl h;exact⟨h1,h2,h3,h4⟩
theorem aak(bs:Nat->List UInt8)(j:Nat):∀s∈MC bs j,ShG s:=λs hs=>by
 obtain⟨i,_,h⟩:=List.mem_filterMap.1 hs;unfold okS at h;split at h
 .rename_i s' hp;cases h;exact W_ hp
 .cases h
theorem aey(bs:Nat->List UInt8)(j:Nat):(MC bs j).length<=j:=by have:=List.length_filterMap_le (λi=>okS (bs i)) (List.range j);simpa[MC]using this
end Go.Proofs.Y
namespace Go.Proofs.Y
open Go.Proofs.Tryz
open Go.RowKit Go.Deep Go.Hp
def cOf(c:Int):Nat:=1+zn c 9
theorem akv(c:Int):1<=cOf c/\cOf c<=9:=by have:=zq c (show 0<9 by omega);unfold cOf;omega
theorem abt(k n c:Int)(hk:Ie k)(hn:Ie n)(hc:Ie c)(w:World):
  Calls prog 6 #[.int .i64 k,.int .i64 n,.int .i64 c] w λe w'=>e=.returned (prm (Wv k n) (Gq n) (cOf c))/\Below w.heap.size w w':=by
 have hN:=Zk n;have hK:=aks k n;have hC:=akv c;have eN:(1:Int)+((zn n 12:Nat):Int)=((Gq n:Nat):Int):=by simp[Gq]
 have eK:(1:Int)+((zn k (Gq n):Nat):Int)=((Wv k n:Nat):Int):=by simp[Wv]
 have eC:(1:Int)+((zn c 9:Nat):Int)=((cOf c:Nat):Int):=by simp[cOf]
 have pN:=zq n (show 0<12 by omega);have pK:=zq k (show 0<Gq n by omega);have pC:=zq c (show 0<9 by omega);go_enter func6,ntmps6;have c1:=EC n 12 12 rfl hn.1 hn.2 ae ae;have c2:=EC k (Gq n) (Gq n:Int) rfl hk.1 hk.2 ae ae;have c3:=EC c 9 9 rfl hc.1 hc.2 ae ae;generalize hpk:zn k (Gq n)=pk at*;generalize hpn:zn n 12=pn at*;generalize hpc:zn c 9=pc at*;generalize hkk:Wv k n=kk at*;generalize hnn:Gq n=nn at*;generalize hcc:cOf c=cc at*;clear hpk hpn hkk hnn hpc hcc
 go_wp2_with(first
  |(go_at_call 10;(with_reducible refine(c1 _).mono ?_);rintro e w' ⟨rfl,tH⟩;obtain rfl:=tH.symm)
  |(go_at_call 10;(with_reducible refine(c2 _).mono ?_);rintro e w' ⟨rfl,tH⟩;obtain rfl:=tH.symm)
  |(go_at_call 10;(with_reducible refine(c3 _).mono ?_);rintro e w' ⟨rfl,tH⟩;obtain rfl:=tH.symm))
 have hF:((w.alloc (Obj.cells #[.int .i64 kk,.int .i64 nn,.int .i64 cc] 24)).alloc (Obj.cells #[.int .i64 kk,.int .i64 nn,.int .i64 cc] 24)).heap[w.heap.size]?=some (.cells #[.int .i64 kk,.int .i64 nn,.int .i64 cc] 24 (0,0)):=by exact axO
 refine gu (nz (p:=6) rfl _ _ w.heap.size 24 _ (0,0) _ ax hF underlying24 rfl ag) rfl ?_;exact⟨rfl,((aA _ _).alloc (ak _) _).alloc ai _⟩
def yf(i:Nat):List UInt8:=[98,UInt8.ofNat (97+i)]
theorem ak0(i:Nat)(hi:i<26)(w:World):
  Calls prog 14 #[.int .i64 (i:Int)] w λe w'=>e=.returned (ry (yf i))/\Below w.heap.size w w':=by
 go_enter func14,ntmps14;have em:(i:Int)%26=(i:Int):=ae
 have kc:(convert 34 9 (.slice (some ⟨w.heap.size,0,none⟩) 2 2)).run prog (w.alloc (.cells #[.int .u8 98,.int .u8 (97+(i:Int))] 5))=.ok (.string ⟨(yf i).toArray⟩) (w.alloc (.cells #[.int .u8 98,.int .u8 (97+(i:Int))] 5)):=by
  refine Zf.string (l:=yf i) (.inr ⟨_,2,rfl,λj hj=>?_⟩);have hn:=dO w (.cells #[.int .u8 98,.int .u8 (97+(i:Int))] 5)
  have e1:((UInt8.ofNat (97+i)).toNat:Int)=97+(i:Int):=by rw[dW,aZ ae];omega
  have hj2:j<2:=hj
  match j,hj2 with
  |0,_=>
   show World.cell? _ ⟨w.heap.size,0,none⟩=_;simp only[World.cell?,hn];rfl
  |1,_=>
   show World.cell? _ ⟨w.heap.size,1,none⟩=some (.int .u8 ((UInt8.ofNat (97+i)).toNat:Int));rw[e1];simp only[World.cell?,hn];rfl
 go_wp2;go_ret;exact⟨rfl,(aA _ _).alloc (ak _) _⟩
theorem akw{i j:Nat}(hi:i<26)(hj:j<26)(h:yf i=yf j):i=j:=by
 have e:UInt8.ofNat (97+i)=UInt8.ofNat (97+j):=by unfold yf at h;simpa using h
 have:=aP UInt8.toNat e;rw[dW,dW,aZ ae,aZ ae]at this;omega
theorem agv(k n c:Int):Ah ((Wv k n:Nat):Int) ((Gq n:Nat):Int) ((cOf c:Nat):Int):=by have:=Zk n;have:=aks k n;have:=akv c;refine⟨?_,ae,ae⟩;unfold BM;omega
theorem aha{m:Nat}{f:Nat->qY}{xs:Nat->Nat}(hx:∀i,i<m->xs i<26)(hd:∀i j,i<j->j<m->xs i≠xs j)(hk:∀i,i<m->(f i).k=yf (xs i)):uM m f:=
 ⟨λi hi=>by rw[hk i hi];exact⟨by simp[yf],by simp[yf]⟩,λi j h1 h2 e=>hd i j h1 h2 (akw (hx i ae) (hx j h2) (by rw[<-hk i ae,<-hk j h2];exact e))⟩
structure ArI(h:Nat)(w:World)(i:Nat)(f:Nat->qY)(D:Nat->List UInt8)(va:Value)(wr:World):Prop where
 own:wr.ownsRow h 44 2 va i (wW i f)
 nm:∀j,j<i->(f j).k=yf j
 len:∀j,j<i->(D j).length<14
 dat:∀j,j<i->∃B,wr.ownsRow B 5 1 (f j).d (D j).length (r_ (D j))
 AZ:Below h w wr
structure BlI(i pb:Nat)(w:World)(L:List UInt8)(vd:Value)(wq:World):Prop where
 row:qf wq pb [ry (yf i),vd] 44
 own:wq.ownsRow (pb+1) 5 1 vd L.length (r_ L)
 AZ:Below w.heap.size w wq
 pb:w.heap.size<=pb
theorem api{w:World}{B n:Nat}{v:Value}{xs:List Value}(h:w.ownsRow B 5 1 v n xs)(k:List UInt8):∃e:qY,e.k=k/\e.d=v:=by
 rcases h.2 with⟨h1,h2⟩|⟨g,cap,cur,rfl,h2,h3,h4,_⟩
 .subst h1;exact⟨⟨k,none,0,0⟩,rfl,rfl⟩
 .exact⟨⟨k,some ⟨g,0,none⟩,_,cap⟩,rfl,rfl⟩
theorem Qz{w:World}{B:Nat}{e:qY}{L:List UInt8}(h:w.ownsRow B 5 1 e.d L.length (r_ L)):yR w e L:=by
 rcases h.2 with⟨h1,h2⟩|⟨g,cap,cur,h1,h2,h3,h4,_⟩
 .unfold qY.d at h1;cases h1':e.a with
  |none=>
   rw[h1']at h1;simp only[Value.slice.injEq,true_and]at h1;exact⟨ae,.inl ⟨h1',h1.1,h1.2⟩⟩
  |some x=>rw[h1']at h1;simp at h1
 .have h1':=h1;unfold qY.d at h1';simp only[Value.slice.injEq]at h1';refine⟨h1'.2.1.symm,.inr ⟨_,h1'.1,λj u hj=>?_⟩⟩;have hl:j<(r_ L).length:=(dS.1 hj).1;rw[h1]at h;rw[af4,aT,h.cellAt j (by simpa[r_]using hl)];exact hj
theorem ArI.next{h i pb:Nat}{w wr wq:World}{f:Nat->qY}{D:Nat->List UInt8}{va vd:Value}{L:List UInt8}(H:ArI h w i f D va wr)(hB:BlI i pb wr L vd wq)(hh:h<=wr.heap.size):
  ∃e:qY,e.k=yf i/\e.d=vd/\wq.ownsRow h 44 2 va i (wW i f)/\wq.ownsRow (pb+1) 5 1 e.d L.length (r_ L)/\(∀j,j<i->∃B,wq.ownsRow B 5 1 (f j).d (D j).length (r_ (D j)))/\Below h w wq:=by
 obtain⟨e,h1,h2⟩:=api hB.own (yf i)
 exact⟨e,h1,h2,rX H.own λg hg=>hB.AZ.block g (H.own.lt g hg).2,h2▸hB.own,λj hj=>by obtain⟨B,hBj⟩:=H.dat j hj;exact⟨B,rX hBj λg hg=>hB.AZ.block g (hBj.lt g hg).2⟩,H.AZ.trans (hB.AZ.mono hh)⟩
theorem akx{k:Nat}(h:k<256):(k:Int)=(((UInt8.ofNat k).toNat:Nat):Int):=by rw[dW,aZ h]
theorem BlI.apj{i pb:Nat}{w wq w1:World}{L:List UInt8}{vd:Value}{o:Obj}(H:BlI i pb w L vd wq)(hg:(wq.alloc o).grownBy w1 vd.ownBlock):qf w1 pb [ry (yf i),vd] 44:=by have qE:=H.row.lt;have e:=hg.block pb az (λe=>by have:=(H.own.lt pb e.symm).1;omega);unfold qf;rw[e,bM _ _ _ qE];exact H.row
theorem BlI.add{i pb:Nat}{w wq w1:World}{L:List UInt8}{vd v':Value}{o:Obj}(H:BlI i pb w L vd wq)(x:UInt8)(ho:w1.ownsRow (pb+1) 5 1 v' (L.length+1) (r_ L++[.int .u8 (x.toNat:Int)]))(hg:(wq.alloc o).grownBy w1 vd.ownBlock):BlI i pb w (L++[x]) v' (w1.setCell ⟨pb,1,none⟩ v'):=by
 have qE:=H.row.lt;have hp:=H.pb;refine⟨(H.apj hg).set 1 v',?_,?_,hp⟩
 .have e:r_ (L++[x])=r_ L++[.int .u8 (x.toNat:Int)]:=dL;rw[e,aS];exact rX ho λg hg=>jI _ _ _ _ (by have:=(ho.lt g hg).1;show g≠pb;omega)
 .have h1:=(H.AZ.alloc (iE (iP hp qE)) o).grown hg az (λx hx=>by have:=(H.own.lt x hx).1;omega);exact h1.setCell hp _
theorem ari(z:Int):∃y:Nat,y<256/\IntKind.u8.wrap z=(y:Int):=by
 have h:IntKind.u8.wrap z=z%256:=by simp[IntKind.wrap,IntKind.bits,IntKind.signed]
 exact⟨(z%256).toNat,ae,by rw[h];omega⟩
theorem aej(k:List UInt8)(a:Option Addr)(l c:Nat):∀u∈[Value.string ⟨k.toArray⟩,.slice a l c],u.oneCell'=true:=by exact axQ
theorem ArI.add{h i pb:Nat}{w wr0 wr w1:World}{f:Nat->qY}{D:Nat->List UInt8}{va v':Value}{o:Obj}{e:qY}{L:List UInt8}(H:ArI h w i f D va wr0)(ho:w1.ownsRow h 44 2 v' (i+1) (wW i f++[.string ⟨(yf i).toArray⟩,.slice e.a e.l e.c]))(hg:(wr.alloc o).grownBy w1 va.ownBlock)(he:e.k=yf i)(hL:L.length<14)
  (hd:wr.ownsRow (pb+1) 5 1 e.d L.length (r_ L)) (hdd:∀j,j<i->∃B,wr.ownsRow B 5 1 (f j).d (D j).length (r_ (D j))) (hb:Below h w wr) (uK:wr.ownsRow h 44 2 va i (wW i f)) (hw:h<=wr.heap.size):ArI h w (i+1) (λj=>if j=i then e else f j) (λj=>if j=i then L else D j) v' w1:=by
 have hk:∀{B n:Nat}{v:Value}{xs:List Value},wr.ownsRow B 5 1 v n xs->w1.ownsRow B 5 1 v n xs:=λhx=>rX hx λg uB=>by have qE:=(hx.lt g uB).2;rw[hg.block g az (λe=>EW uK hx au e.symm uB),bM _ _ _ qE]
 refine⟨?_,λj hj=>?_,λj hj=>?_,λj hj=>?_,(hb.alloc hw o).grown hg az (λx hx=>(uK.lt x hx).1)⟩
 .rw[Bg,QP (g:=f) λj hj=>by simp;intro h;omega];have e1:Ii (if i=i then e else f i)=[.string ⟨(yf i).toArray⟩,.slice e.a e.l e.c]:=by rw[aj rfl,Ii,he];rfl
  rw[e1];exact ho
 .split
  .rename_i h1;rw[h1];exact he
  .exact H.nm j ae
 .split
  .exact hL
  .exact H.len j ae
 .split
  .exact⟨_,hk hd⟩
  .obtain⟨B,h1⟩:=hdd j ae;exact⟨B,hk h1⟩
def InR(i pb sz len:Nat)(w:World)(vat vk:Value)(wq:World):Prop:=∃(k q:Nat)(L:List UInt8)(vd:Value),k<=sz/\k=L.length/\q<=len/\vk=.int .i64 ((k:Nat):Int)/\vat=.int .i64 ((q:Nat):Int)/\BlI i pb w L vd wq
def asD(h n len:Nat)(w:World)(va vat vi:Value)(wr:World):Prop:=∃(i q:Nat)(f:Nat->qY)(D:Nat->List UInt8),i<=n/\q<=len/\vi=.int .i64 ((i:Nat):Int)/\vat=.int .i64 ((q:Nat):Int)/\ArI h w i f D va wr
def apk(w:World)(e:Ending)(w':World):Prop:=∃v m f D,e=.returned v/\m<=5/\ArI w.heap.size w m f D v w'
theorem abu(vr:Value)(zs:List Int)(w:World)(hz:IC w vr zs)(hlen:zs.length<9223372036854775807):
  Calls prog 7 #[vr] w λe w'=>apk w e w':=by
 obtain⟨i0,Af,x_,w_,wH⟩:=bG Dc;obtain⟨i1,Lc,hy0,hy1,hy2⟩:=bG Tryz.Ob;obtain⟨bo,La,rfl,uJ⟩:=hz.open;by_cases h0:zs.length=0
 .go_enter func7,ntmps7;have e0:(zs.length:Int)=0:=ae;go_wp2;go_ret;exact⟨_,0,λ_=>⟨[],none,0,0⟩,λ_=>[],rfl,ae,⟨dh _ _ _ _,λj hj=>absurd hj ae,λj hj=>absurd hj ae,λj hj=>absurd hj ae,aA _ _⟩⟩
 .obtain⟨b,off,rfl,hb,hcell⟩:=uJ ae;clear uJ
  have cz:∀j,j<zs.length->∃z,w.cell? ⟨b,off+j,none⟩=some (.int .i64 z)/\Ie z:=λj hj=>by have hzj:zs[j]?=some zs[j]:=a_ hj;exact⟨_,hcell j _ hzj,hz.abv _ (iR hzj)⟩
  obtain⟨z0,hc0,apH⟩:=cz 0 ae;rw[eY]at hc0;have hl0:(0:Int)<(zs.length:Int):=ae;have hn0:¬((zs.length:Int)=0):=ae;have hp:=EC z0 6 6 rfl apH.1 apH.2 ae ae;have vP:=zq z0 (show 0<6 by omega);go_enter func7,ntmps7;generalize zn z0 6=n at hp vP;clear hcell hz h0
  go_wp2_with(first|(go_at_call 10;(with_reducible refine(hp _).mono ?_);rintro e w' ⟨rfl,tH⟩;obtain rfl:=tH.symm))
  have Ir:=hb;generalize hh:w.heap.size=h at*;have start:ArI h w 0 (λ_=>⟨[],none,0,0⟩) (λ_=>[]) (.slice none 0 0) w:=⟨dh _ _ _ _,λj hj=>absurd hj ae,λj hj=>absurd hj ae,λj hj=>absurd hj ae,aA _ _⟩
  go_loopw [3,5,6,7,8,9,10] (λva vat vi _ _ _ _ wr=>asD h n zs.length w va vat vi wr) (λ_ _ vi _ _ _ _ _=>n-(intOf vi).toNat)
  case atStart=>exact⟨0,1,_,_,ae,ae,rfl,rfl,start⟩
  case round=>
   clear start hc0 apH hp;obtain⟨i,q,f,D,hi,hq,rfl,rfl,H⟩:=hrel;have hs:h<=wr.heap.size:=by rw[<-hh];exact H.AZ.size
   by_cases qE:i<n
   .have Ag:(i:Int)<(n:Int):=ae;have kn:=ak0 i ae;simp only[ry]at kn;by_cases hql:q<zs.length
    case' pos=>
     have aky:(q:Int)<(zs.length:Int):=ae;obtain⟨z,hcz,O9⟩:=cz q hql;have kp:=EC z 14 14 rfl O9.1 O9.2 ae ae;have hsz:=zq z (show 0<14 by omega);generalize zn z 14=sz at kp hsz;rw[<-H.AZ.cell (p:=⟨b,off+q,none⟩) hb]at hcz
     go_wp2_with(first
      |(go_at_call 14;(with_reducible refine(kn _).mono ?_);rintro e w1 ⟨rfl,t_⟩;have hcq:=(((aA w1.heap.size w1).alloc (ak _) (.cells #[ry (yf i),.slice none 0 0] 44)).cell (p:=⟨b,off+q,none⟩) (aK (aK hb hs) t_.size)).trans ((t_.cell (p:=⟨b,off+q,none⟩) (aK hb hs)).trans hcz);simp only[ry]at hcq)
      |(go_at_call 10;(with_reducible refine(kp _).mono ?_);rintro e w' ⟨rfl,tH⟩;obtain rfl:=tH.symm))
     clear kp hcz O9 hcq aky;have hq1:q+1<=zs.length:=ae;clear hql
    case' neg=>
     have aky:¬((q:Int)<(zs.length:Int)):=ae;obtain⟨sz,hsz,esz⟩:∃sz:Nat,sz<14/\((sz:Nat):Int)=0:=⟨0,ae,rfl⟩;have hq1:q<=zs.length:=hq
     go_wp2_with(first
      |(go_at_call 14;(with_reducible refine(kn _).mono ?_);rintro e w1 ⟨rfl,t_⟩))
     rw[<-esz];have ez:sz<1:=ae;clear aky hql esz
    all_goals
     have NF:BlI i w1.heap.size wr [] (.slice none 0 0) (w1.alloc (.cells #[ry (yf i),.slice none 0 0] 44)):=⟨qf.made w1 [ry (yf i),.slice none 0 0] 44,dh _ _ _ _,t_.alloc t_.size _,t_.size⟩;simp only[ry]at NF;generalize w1.alloc (.cells #[.string ⟨(yf i).toArray⟩,.slice none 0 0] 44)=ws at NF⊢;generalize w1.heap.size=pb at NF⊢;clear t_ kn
     go_loopw [5,9,10] (λvat vk _ wq=>InR i pb sz zs.length wr vat vk wq) (λ_ vk _ _=>sz-(intOf vk).toNat)
     case atStart=>first|exact⟨0,q+1,[],_,ae,rfl,hq1,rfl,aW,NF⟩|exact⟨sz,_,[],_,ae,az,hq1,rfl,rfl,NF⟩
     case round=>
      rename_i wq;clear NF hq1;obtain⟨k,q,L,vd,hk,rfl,hq,rfl,rfl,hB⟩:=hrel;by_cases hks:L.length<sz
      .first|(exfalso;omega)|skip
       all_goals
        have asE:(L.length:Int)<(sz:Int):=ae;have c0:=hB.row.cell (i:=0) rfl;have c1:=hB.row.cell (i:=1) rfl;simp only[ry]at c0;by_cases hql:q<zs.length
        case' pos=>
         have aky:(q:Int)<(zs.length:Int):=ae;obtain⟨z,hcz,O9⟩:=cz q hql;have hwq:=H.AZ.trans (hB.AZ.mono hs);rw[<-hwq.cell (p:=⟨b,off+q,none⟩) hb]at hcz;obtain⟨y,hy,hx⟩:=ari z
         go_wp2_with(at_builtin;go_loud (refine dG _ rfl _ _ 34 rfl (pb+1) 5 i0 (.int .u8 0) 1 1 underlying34 Af x_ w_ wH rfl au _ _ _ rfl (hB.own.alloc _) ⟨wr.heap.size,0,none⟩ 1 1 [.int .u8 (y:Int)] rfl rfl (BH _ _ _) (ajj _) bH ae awi ?_;intro v' w1 Ad tq _;obtain⟨gg,cc,rfl,_,_⟩:=Ad.form ae;have xW:=hB.apj tq;have d0:=xW.cell (i:=0) rfl;have d1:=xW.cell (i:=1) rfl;have f1:=xW.frozen 1;have Ae:=hB.add (UInt8.ofNat y) (by rw[<-akx (k:=y) hy];exact Ad) tq;simp only[ry]at d0;clear Ad tq xW c0 c1))
        case' neg=>
         have aky:¬((q:Int)<(zs.length:Int)):=ae
         go_wp2_with(at_builtin;go_loud (refine dG _ rfl _ _ 34 rfl (pb+1) 5 i0 (.int .u8 0) 1 1 underlying34 Af x_ w_ wH rfl au _ _ _ rfl (hB.own.alloc _) ⟨wr.heap.size,0,none⟩ 1 1 [.int .u8 (L.length:Int)] rfl rfl (BH _ _ _) (ajj _) bH ae awi ?_;intro v' w1 Ad tq _;obtain⟨gg,cc,rfl,_,_⟩:=Ad.form ae;have xW:=hB.apj tq;have d0:=xW.cell (i:=0) rfl;have d1:=xW.cell (i:=1) rfl;have f1:=xW.frozen 1;have Ae:=hB.add (UInt8.ofNat L.length) (by rw[<-akx (k:=L.length) ae];exact Ad) tq;simp only[ry]at d0;clear Ad tq xW c0 c1))
        all_goals
         go_roundw
         case rel=>first|exact⟨L.length+1,q+1,L++[UInt8.ofNat y],_,ae,ai,ae,aW,aW,Ae⟩|exact⟨L.length+1,q,L++[UInt8.ofNat L.length],_,ae,ai,ae,aW,rfl,Ae⟩
         case measure=>simp[intOf];omega
      .have asE:¬((L.length:Int)<(sz:Int)):=ae;obtain⟨e,he1,he2,ho,hd,hdd,ZT⟩:=H.next hB hs;have c0:=hB.row.cell (i:=0) rfl;have c1:=hB.row.cell (i:=1) rfl;rw[<-he2]at c1;simp only[ry,qY.d]at c0 c1;have hpb:=hB.row.lt;have hwh:h<=wr.heap.size:=by rw[<-hh];exact ZT.size
       clear hB he2
       go_wp2_with(at_builtin;go_loud (refine dG _ rfl _ _ 26 rfl h 44 i1 (.agg #[.string ⟨#[]⟩,.slice none 0 0]) 2 40 underlying26 Lc hy0 hy1 hy2 rfl au _ _ _ rfl (ho.alloc _) ⟨wr.heap.size,0,none⟩ 1 1 [.string ⟨(yf i).toArray⟩,.slice e.a e.l e.c] rfl rfl (cell_two_new _ _ _ _) (aej _ _ _ _) bH ae az ?_;intro v' w1 Ad tq _))
       go_roundw
       case rel=>exact⟨i+1,q,λj=>if j=i then e else f j,λj=>if j=i then L else D j,ae,hq,aW,rfl,H.add Ad tq he1 ae hd hdd ZT ho hwh⟩
       case measure=>simp[intOf];omega
   .obtain rfl:i=n:=ae;have GH:¬((i:Int)<(i:Int)):=ae;go_wp2;go_ret;exact⟨_,i,f,D,rfl,ae,hh▸H⟩
end Go.Proofs.Y
namespace Go.Proofs.Y
open Go.Proofs.Tryz
open Go.RowKit Go.Deep Go.Lf Go.Conc Go.Hp
def turn(f:Nat->qY)(xs:List Nat):Nat->qY:=λj=>f (xs.getD j 0)
structure SmP(K N C m:Nat)(f:Nat->qY)(D:Nat->List UInt8)(pb:Nat)(vb:Value)(w:World):Prop where
 par:qf w pb [.int .i64 ((K:Nat):Int),.int .i64 ((N:Nat):Int),.int .i64 ((C:Nat):Int)] 24
 own:∃B,w.ownsRow B 44 2 vb m (wW m f)
 nm:∀j,j<m->(f j).k=yf j
 len:∀j,j<m->(D j).length<14
 dat:∀j,j<m->∃B,w.ownsRow B 5 1 (f j).d (D j).length (r_ (D j))
 hm:m<=5
structure SmS(h0 K N C m:Nat)(f:Nat->qY)(D:Nat->List UInt8)(xs:List Nat)(pb:Nat)(vb vt:Value)(w:World):Prop where
 pre:SmP K N C m f D pb vb w
 owt:∃B,h0<=B/\w.ownsRow B 44 2 vt m (wW m (turn f xs))
 once:as5 m xs
theorem IC.AZ{w w':World}{v:Value}{zs:List Int}{B:Nat}(h:IC w v zs)(hb:sK B w w')(hB:w.heap.size<=B):IC w' v zs:=by
 refine⟨h.abv,?_⟩;rcases h.lies with h1|⟨b,off,cap,h1,h2,h3⟩
 .exact .inl h1
 .refine .inr ⟨b,off,cap,h1,aK h2 hb.sH,λj z hz=>?_⟩;have:=h3 j z hz;unfold World.cell? at this⊢;rw[hb.blk (aK h2 hB)];exact this
section
variable {X:Nat->Prop}{Y:Nat->Option Obj}{D:Nat->World->Array Event->Prop}{Stop:Goroutine->World->Prop}{w:World}
end
theorem TT{w w':World}{B e z n:Nat}{v:Value}{xs:List Value}(h:w.ownsRow B e z v n xs)(hs:Sub w w'):w'.ownsRow B e z v n xs:=by
 refine⟨h.1,?_⟩;rcases h.2 with h1|⟨g,cap,cur,h1,h2,h3,h4⟩
 .exact .inl h1
 .exact .inr ⟨g,cap,cur,h1,h2,hs.2 _ _ _ _ h3,h4⟩
theorem SmP.sub{K N C m:Nat}{f:Nat->qY}{D:Nat->List UInt8}{pb:Nat}{vb:Value}{w w':World}(h:SmP K N C m f D pb vb w)(hs:Sub w w'):SmP K N C m f D pb vb w':=
 ⟨hs.row h.par,by obtain⟨B,h1⟩:=h.own;exact⟨B,TT h1 hs⟩,h.nm,h.len,λj hj=>by obtain⟨B,h1⟩:=h.dat j hj;exact⟨B,TT h1 hs⟩,h.hm⟩
def dOf(D:Nat->List UInt8)(e:qY):List UInt8:=D ((e.k.getD 1 0).toNat-97)
theorem ain(D:Nat->List UInt8){e:qY}{j:Nat}(hj:j<26)(h:e.k=yf j):dOf D e=D j:=by
 unfold dOf;rw[h]
 have:((yf j).getD 1 0).toNat=97+j:=by show(UInt8.ofNat (97+j)).toNat=97+j;rw[dW,aZ ae]
 rw[this,gZ]
section
variable {h0 K N C m:Nat}{f:Nat->qY}{D:Nat->List UInt8}{xs:List Nat}{pb:Nat}{vb vt:Value}{w:World}
theorem amK{f':Nat->qY}{v:Value}{B:Nat}(h:SmP K N C m f D pb vb w)(ho:w.ownsRow B 44 2 v m (wW m f'))(hf:∀i,i<m->∃j,j<m/\f' i=f j):∃bo cap,v=.slice bo m cap/\YF w bo m cap f' (dOf D):=by
 obtain⟨bo,cap,rfl,h1,h2,hB⟩:=BC.aeY ho;have hm:=h.hm;refine⟨bo,cap,rfl,ae,h1,h2,λi hi=>?_,λi hi=>?_,hB,λi hi=>?_⟩
 .obtain⟨j,hj,e⟩:=hf i hi;rw[e,h.nm j hj];simp[yf]
 .obtain⟨j,hj,e⟩:=hf i hi;obtain⟨B,hd⟩:=h.dat j hj;have h1:=(Qz hd).1;have h2:=h.len j hj;rw[e];omega
 .obtain⟨j,hj,e⟩:=hf i hi;obtain⟨B,hd⟩:=h.dat j hj;rw[e,ain D ae (h.nm j hj)];exact Qz hd
theorem SmP.args(h:SmP K N C m f D pb vb w):∃bo cap,vb=.slice bo m cap/\YF w bo m cap f (dOf D):=by obtain⟨B,ho⟩:=h.own;exact amK h ho λi hi=>⟨i,hi,rfl⟩
theorem SmP.fits(h:SmP K N C m f D pb vb w):uM m f:=aha (xs:=id) (λi hi=>by have:=h.hm;show i<26;omega) (λi j h1 h2=>by show i≠j;omega) h.nm
theorem SmP.aqH(h:SmP K N C m f D pb vb w):∀j,j<m->(f j).k.length=2/\(f j).l<14:=λj hj=>by obtain⟨B,hd⟩:=h.dat j hj;have h1:=(Qz hd).1;have h2:=h.len j hj;exact⟨by rw[h.nm j hj];rfl,ae⟩
end
theorem amL{n:Nat}{f g:Nat->qY}(hR:qN n f g)(h:uM n f):uM n g:=by
 refine⟨λi hi=>?_,λi j h1 h2 e=>?_⟩
 .obtain⟨j,hj,e⟩:=hR.from hi;rw[e];exact h.1 j hj
 .obtain⟨i',j',a1,a2,a3,a4,a5⟩:=hR.two (i:=i) (j:=j) ae h2 ae;rw[a4,a5]at e;rcases aQ i' j' with qE|VF
  .exact h.2 i' j' qE a2 e
  .exact h.2 j' i' ae a1 e.symm
theorem ahb{n:Nat}{g:Nat->qY}(hS:Srt n g)(h:uM n g):∀i,i+1<n->Hp.lt (g i).k (g (i+1)).k=true:=λi hi=>by
 have h1:=hS i hi;rcases Hp.GU (g i).k (g (i+1)).k with⟨h2,_,_⟩|⟨h2,_,_⟩|⟨h2,_,_⟩
 .exact h2
 .have h1':Hp.lt (g (i+1)).k (g i).k=false:=h1;rw[h1']at h2;cases h2
 .exact absurd h2 (h.2 i (i+1) ae hi)
theorem abw{n:Nat}{f g g':Nat->qY}(h:uM n f)(a:qN n f g)(b:qN n f g')(hg:Srt n g)(uB:Srt n g'):∀i,i<n->g' i=g i:=
 ac8 a b (ahb hg (amL a h)) uB
theorem akz{α:Type}(l:List α)(F:α->Nat)(c:Nat)(h:∀x∈l,F x<=c):(l.map F).sum<=c*l.length:=by
 induction l with
 |nil=>simp
 |cons a l ih=>
  have h1:=h a ai;have h2:=ih λx hx=>h x jB
  simp only[fE,jk,bQ,Nat.mul_succ];omega
theorem ajE{m:Nat}{f g:Nat->qY}(hm:m<=5)(h:∀j,j<m->(f j).k.length=2/\(f j).l<14)(hR:qN m f g):Lm (qB m g) (qG m g):=by
 have hg:∀i,i<m->(g i).k.length=2/\(g i).l<14:=λi hi=>by obtain⟨j,hj,e⟩:=hR.from hi;rw[e];exact h j hj
 refine⟨by rw[vG];omega,?_,?_⟩
 .unfold EG
  have:=akz (qG m g) Int.toNat 14 λx hx=>by simp only[qG,fA,fK]at hx;obtain⟨i,hi,rfl⟩:=hx;have:=hg i hi;omega
  rw[yh]at this;omega
 .unfold IL
  have:=akz (qB m g) (λn=>6+n.length) 8 λx hx=>by simp only[qB,fA,fK]at hx;obtain⟨i,hi,rfl⟩:=hx;have:=hg i hi;omega
  rw[vG]at this;omega
section
open Go.Conc
variable {P:Program}{X:Nat->Prop}{Y:Nat->Option Obj}{D:Nat->World->Array Event->Prop}{Stop:Goroutine->World->Prop}{f:FuncId}{v:World}
theorem agw(hD0:vw X D){T:Array Value}{k:List Item}{fn:Func}(hf:P.funcs[f]?=some fn)(O9:P.inits.idxOf? f=none){y:Value}(BF:∀u,(results fn T).runT P u #[]=(.ok y u,#[]))
  (h:∀w d,qL X Y w v->(∀d',stepG P true (G {Dn none [] f T (.code .ret::k)with mode:=.returning} []) (w.at d')=.ended (.done y) (w.at d') #[])->Stop (G {Dn none [] f T (.code .ret::k)with mode:=.returning} []) (w.at d)):rD P X Y D Stop none [] f [] (.code .ret::k) T v:=by
 intro w hs;refine .next rfl λd=>⟨G {Dn none [] f T (.code .ret::k)with mode:=.returning} [],w.at d,#[],rfl,hD0.nil (ak _),?_⟩
 have eA:∀u,stepG P true (G {Dn none [] f T (.code .ret::k)with mode:=.returning} []) u=.ended (.done y) u #[]:=λu=>by have:=BF u;simp only[G,stepG,unwind,Dn,hf,this,seen_none,doReturn,O9,iI,bu,aU,GStep.after,Array.append_empty]
 exact .stop λd'=>h w d' hs λd''=>eA _
end
end Go.Proofs.Y
namespace Go.Proofs.Y
open Go.Proofs.Tryz
open Go.RowKit Go.Deep
theorem acH(k:Nat)(hk:k<=255):b8 (k:Int)=UInt8.ofNat k:=by unfold b8;rw[gI,aZ ae]

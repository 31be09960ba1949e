import Derived.Test.YtnbflnamlpodcaaGreatDoorAdC
set_option maxHeartbeats 4000000
set_option maxRecDepth 100000
namespace Go.Proofs.Y
open Go.RowKit Go.Deep Go.Lf Go.Conc Go.Hp
noncomputable def uY:Code:=Tryz.f11.body.getD .skip
noncomputable def V7:Code:=qo (qo (qo (qo uY)))
noncomputable def YT:Code:=qo V7
theorem abM:uY=.seq (qG uY) (.seq (qG (qo uY)) (.seq (qG (qo (qo uY))) (.seq (qG (qo (qo (qo uY)))) V7))):=ag
noncomputable def UD:{y:Array Oper//y=sN (qG V7)}:=⟨_,by(simp only[V7,uY,qG,qo,sN,Tryz.f11,aB];rfl)⟩
noncomputable def Oe:Array Oper:=UD.1
theorem agQ:V7=.seq (.region 11 Oe false) YT:=ag
theorem abN:Oe.size=7:=ag
theorem agP:∃fn,Tryz.prog.funcs[11]?=some fn:=⟨_,Tryz.func11⟩
def Tdc(f:Nat->Value)(a0 a5 a6 a12 a13:Value):Array Value:=#[a0,f 1,f 2,f 3,f 4,a5,a6,f 7,f 8,f 9,f 10,f 11,a12,a13,f 14,f 15,f 16,f 17,f 18,f 19,f 20,f 21,f 22,f 23,f 24,f 25,f 26,f 27,f 28,f 29,f 30,f 31,f 32,f 33,f 34,f 35,f 36,f 37,f 38,f 39,f 40,f 41,f 42,f 43,f 44,f 45,f 46,f 47,f 48,f 49,f 50,f 51,f 52,f 53,f 54,f 55]
theorem YS{T:Array Value}(h:T=#[T.getD 0 undef,T.getD 1 undef,T.getD 2 undef,T.getD 3 undef,T.getD 4 undef,T.getD 5 undef,T.getD 6 undef,T.getD 7 undef,T.getD 8 undef,T.getD 9 undef,T.getD 10 undef,T.getD 11 undef,T.getD 12 undef,T.getD 13 undef,T.getD 14 undef,T.getD 15 undef,T.getD 16 undef,T.getD 17 undef,T.getD 18 undef,T.getD 19 undef,T.getD 20 undef,T.getD 21 undef,T.getD 22 undef,T.getD 23 undef,T.getD 24 undef,T.getD 25 undef,T.getD 26 undef,T.getD 27 undef,T.getD 28 undef,T.getD 29 undef,T.getD 30 undef,T.getD 31 undef,T.getD 32 undef,T.getD 33 undef,T.getD 34 undef,T.getD 35 undef,T.getD 36 undef,T.getD 37 undef,T.getD 38 undef,T.getD 39 undef,T.getD 40 undef,T.getD 41 undef,T.getD 42 undef,T.getD 43 undef,T.getD 44 undef,T.getD 45 undef,T.getD 46 undef,T.getD 47 undef,T.getD 48 undef,T.getD 49 undef,T.getD 50 undef,T.getD 51 undef,T.getD 52 undef,T.getD 53 undef,T.getD 54 undef,T.getD 55 undef]):T=Tdc (λi=>T.getD i undef) (T.getD 0 undef) (T.getD 5 undef) (T.getD 6 undef) (T.getD 12 undef) (T.getD 13 undef):=h
def TE1(gv n:Nat)(vt:Value)(T:Array Value):Prop:=∃f:Nat->Value,T=Tdc f (f 0) (.slice (some ⟨gv,0,none⟩) n n) vt (f 12) (f 13)
def TE2(gv n:Nat)(vb ve:Value)(T:Array Value):Prop:=∃f:Nat->Value,T=Tdc f (f 0) (.slice (some ⟨gv,0,none⟩) n n) (f 6) vb ve
noncomputable def adD(T:Array Value):Frame:=(base 11).at ⟨T,[]⟩ (.inRegion Oe [1,2,3,4,5,6]::[.code YT])
def okS(l:List UInt8):Option vH:=match qP l with| .ok s=>some s| .error _=>none
def erS(l:List UInt8):Nat:=match qP l with| .ok _=>0| .error e=>e.1
def IW(bs:Nat->List UInt8)(j:Nat):List vH:=(List.range j).filterMap λi=>okS (bs i)
theorem adC{bs:Nat->List UInt8}{j:Nat}{s:vH}(h:qP (bs j)=.ok s):IW bs (j+1)=IW bs j++[s]:=by simp[IW,dm,okS,h]
theorem aiP{bs:Nat->List UInt8}{j:Nat}{e:Nat×Nat}(h:qP (bs j)=.error e):IW bs (j+1)=IW bs j:=by simp[IW,dm,okS,h]
def shD:vH:=⟨0,0,0,0,[],[],[]⟩
def yN(ts:List vH)(i:Nat):vH:=ts.getD i shD
theorem YC{ts:List vH}{s:vH}{i:Nat}(h:i<ts.length):yN (ts++[s]) i=yN ts i:=by simp[yN,eY h]
theorem YD{ts:List vH}{s:vH}:yN (ts++[s]) ts.length=s:=by simp[yN]
def QW(S:Nat->List Value)(n:Nat):List Value:=(List.range n).flatMap S
theorem Jq(S:Nat->List Value)(n:Nat):QW S (n+1)=QW S n++S n:=by simp[QW,dm]
theorem YE{S S':Nat->List Value}{n:Nat}(h:∀i,i<n->S i=S' i):QW S n=QW S' n:=by
 induction n with
 |zero=>rfl
 |succ n ih=>rw[Jq,Jq,ih λi hi=>h i ae,h n ae]
structure Tk(B:Nat)(ts:List vH)(vN vS vC:Nat->Value)(vt:Value)(w:World):Prop where
 own:w.ownsRow B 55 7 vt ts.length (QW (λi=>QY (yN ts i) (vN i) (vS i) (vC i)) ts.length)
 nm:∀i,i<ts.length->w.ownsRow B 9 1 (vN i) (yN ts i).names.length (uV (yN ts i).names)
 sz:∀i,i<ts.length->w.ownsRow B 3 1 (vS i) (yN ts i).sizes.length (yh (yN ts i).sizes)
 cl:∀i,i<ts.length->w.ownsRow B 5 1 (vC i) (yN ts i).qx.length (rF (yN ts i).qx)
theorem Tk.keep{B:Nat}{ts:List vH}{vN vS vC:Nat->Value}{vt:Value}{w w':World}(h:Tk B ts vN vS vC vt w)(hk:∀b,B<=b->b<w.heap.size->w'.heap[b]?=w.heap[b]?):Tk B ts vN vS vC vt w':=
 ⟨rX h.own λg hg=>hk g (h.own.lt g hg).1 (h.own.lt g hg).2,λi hi=>rX (h.nm i hi) λg hg=>hk g ((h.nm i hi).lt g hg).1 ((h.nm i hi).lt g hg).2,
  λi hi=>rX (h.sz i hi) λg hg=>hk g ((h.sz i hi).lt g hg).1 ((h.sz i hi).lt g hg).2,λi hi=>rX (h.cl i hi) λg hg=>hk g ((h.cl i hi).lt g hg).1 ((h.cl i hi).lt g hg).2⟩
theorem Tk.more{B:Nat}{ts:List vH}{vN vS vC:Nat->Value}{vt v':Value}{w w':World}{s:vH}{xN xS xC:Value}(h:Tk B ts vN vS vC vt w)(hN:w.ownsRow B 9 1 xN s.names.length (uV s.names))(hS:w.ownsRow B 3 1 xS s.sizes.length (yh s.sizes))(hC:w.ownsRow B 5 1 xC s.qx.length (rF s.qx))
  (hg:w.grownBy w' vt.ownBlock) (ho:w'.ownsRow B 55 7 v' (ts.length+1) (QW (λi=>QY (yN ts i) (vN i) (vS i) (vC i)) ts.length++QY s xN xS xC)):
  Tk B (ts++[s]) (λi=>if i=ts.length then xN else vN i) (λi=>if i=ts.length then xS else vS i) (λi=>if i=ts.length then xC else vC i) v' w':=by
 have key:∀{t n:Nat}{v:Value}{xs:List Value},w.ownsRow B t 1 v n xs->t≠55->w'.ownsRow B t 1 v n xs:=λ{t n v xs} o ht=>rX o λg hg'=>hg.block g (o.lt g hg').2 (λe=>CJ o h.own ht hg' e.symm);have hl:(ts++[s]).length=ts.length+1:=ai;refine⟨?_,λi hi=>?_,λi hi=>?_,λi hi=>?_⟩
 .rw[hl,Jq,YE (S':=λi=>QY (yN ts i) (vN i) (vS i) (vC i)) λi hi=>by simp only[ah (show i≠ts.length by omega),YC hi]];simp only[aF,YD];exact ho
 all_goals
  by_cases e:i=ts.length
  .subst e;simp only[aF,YD]
   first|exact key hN au|exact key hS au|exact key hC au
  .have hi':i<ts.length:=ae;simp only[ah e,YC hi']
   first|exact key (h.nm i hi') au|exact key (h.sz i hi') au|exact key (h.cl i hi') au
theorem Tk.sds{B:Nat}{ts:List vH}{vN vS vC:Nat->Value}{vt:Value}{w:World}(h:Tk B ts vN vS vC vt w)(hG:∀s∈ts,YN s):∃bo cap,vt=.slice bo ts.length cap/\O4 w bo ts.length (yN ts) vN vS vC:=by
 have hG':∀i,i<ts.length->YN (yN ts i):=λi hi=>hG _ (by simp[yN,aY hi])
 have hv:∃bs cp,vt=.slice bs ts.length cp/\(0<ts.length->∃g,bs=some ⟨g,0,none⟩):=by
  rcases h.own.2 with⟨h1,h0⟩|⟨g,c,_,h1,_⟩
  .exact⟨none,0,by rw[h1,h0],λh=>ae⟩
  .exact⟨_,c,h1,λ_=>⟨g,rfl⟩⟩
 obtain⟨bs,cp,rfl,hbs⟩:=hv
 have hln:∀i,i<ts.length->(yN ts i).names.length<=1048576/\(yN ts i).sizes.length<=1048576:=λi hi=>by have h1:=(hG' i hi).few.adt;have h2:=(hG' i hi).ln;simp only[vH.sh]at h1;omega
 refine⟨bs,cp,rfl,λhn=>?_,λi hi=>⟨Lies.owned (h.nm i hi),(hln i hi).1⟩,λi hi=>⟨Lies.owned (h.sz i hi),(hln i hi).2⟩,λi hi=>Lies.owned (h.cl i hi),λi hi=>by have:=(hG' i hi).k1;omega⟩;obtain⟨g,rfl⟩:=hbs hn;have hr:∀i,i<ts.length->w.rangeAt g (i*7) (QY (yN ts i) (vN i) (vS i) (vC i)):=λi hi=>xu (c:=λe=>QY (yN ts e.l) (vN e.l) (vS e.l) (vC e.l)) (f:=λi=>⟨[],none,i,0⟩) (λ_=>rfl) h.own hi
 exact⟨g,0,rfl,cell_lt (hr 0 hn 0 _ rfl),λi hi=>by rw[aS];exact hr i hi⟩
theorem Sz{z:List UInt8}{s:vH}(h:qP z=.ok s):YN s:=by obtain⟨h1,h2,h3,h4,_⟩:=abD h;exact⟨h1,h2,h3,h4⟩
theorem V8(bs:Nat->List UInt8)(j:Nat):∀s∈IW bs j,YN s:=λs hs=>by
 obtain⟨i,_,h⟩:=List.mem_filterMap.1 hs;unfold okS at h;split at h
 .rename_i s' hp;cases h;exact Sz hp
 .cases h
theorem aaK(bs:Nat->List UInt8)(j:Nat):(IW bs j).length<=j:=by have:=List.length_filterMap_le (λi=>okS (bs i)) (List.range j);simpa[IW]using this
end Go.Proofs.Y
namespace Go.Proofs.Y
open Go.RowKit Go.Deep Go.Hp
def XC(c:Int):Nat:=1+x9 c 9
theorem agE(c:Int):1<=XC c/\XC c<=9:=by have:=x_ c (show 0<9 by omega);unfold XC;omega
theorem Yo(k n c:Int)(hk:In64 k)(hn:In64 n)(hc:In64 c)(w:World):
  Calls Tryz.prog 6 #[.int .i64 k,.int .i64 n,.int .i64 c] w λe w'=>e=.returned (prm (TU k n) (Ie n) (XC c))/\Below w.heap.size w w':=by
 have hN:=Vh n;have hK:=agA k n;have hC:=agE c;have eN:(1:Int)+((x9 n 12:Nat):Int)=((Ie n:Nat):Int):=by simp[Ie]
 have eK:(1:Int)+((x9 k (Ie n):Nat):Int)=((TU k n:Nat):Int):=by simp[TU]
 have eC:(1:Int)+((x9 c 9:Nat):Int)=((XC c:Nat):Int):=by simp[XC]
 have pN:=x_ n (show 0<12 by omega);have pK:=x_ k (show 0<Ie n by omega);have pC:=x_ c (show 0<9 by omega);go_enter Tryz.func6,Tryz.ntmps6;have c1:=pick_any n 12 12 rfl hn.1 hn.2 ae ae;have c2:=pick_any k (Ie n) (Ie n:Int) rfl hk.1 hk.2 ae ae;have c3:=pick_any c 9 9 rfl hc.1 hc.2 ae ae;generalize hpk:x9 k (Ie n)=pk at*;generalize hpn:x9 n 12=pn at*;generalize hpc:x9 c 9=pc at*;generalize hkk:TU k n=kk at*;generalize hnn:Ie n=nn at*;generalize hcc:XC c=cc at*;clear hpk hpn hkk hnn hpc hcc
 go_wp2_with(first
  |(go_at_call 10;(with_reducible refine(c1 _).mono ?_);rintro e w' ⟨rfl,hw'⟩;obtain rfl:=hw'.symm)
  |(go_at_call 10;(with_reducible refine(c2 _).mono ?_);rintro e w' ⟨rfl,hw'⟩;obtain rfl:=hw'.symm)
  |(go_at_call 10;(with_reducible refine(c3 _).mono ?_);rintro e w' ⟨rfl,hw'⟩;obtain rfl:=hw'.symm))
 have hF:((w.alloc (Obj.cells #[.int .i64 kk,.int .i64 nn,.int .i64 cc] 24)).alloc (Obj.cells #[.int .i64 kk,.int .i64 nn,.int .i64 cc] 24)).heap[w.heap.size]?=some (.cells #[.int .i64 kk,.int .i64 nn,.int .i64 cc] 24 (0,0)):=by exact arv
 refine fU (mY (p:=6) rfl _ _ w.heap.size 24 _ (0,0) _ ax hF Tryz.underlying24 rfl ag) rfl ?_;exact⟨rfl,((aA _ _).alloc (ak _) _).alloc ai _⟩
def wO(i:Nat):List UInt8:=[98,UInt8.ofNat (97+i)]
theorem name_any(i:Nat)(hi:i<26)(w:World):
  Calls Tryz.prog 14 #[.int .i64 (i:Int)] w λe w'=>e=.returned (qV (wO i))/\Below w.heap.size w w':=by
 go_enter Tryz.func14,Tryz.ntmps14;have em:(i:Int)%26=(i:Int):=ae
 have kc:(convert 34 9 (.slice (some ⟨w.heap.size,0,none⟩) 2 2)).run Tryz.prog (w.alloc (.cells #[.int .u8 98,.int .u8 (97+(i:Int))] 5))=.ok (.string ⟨(wO i).toArray⟩) (w.alloc (.cells #[.int .u8 98,.int .u8 (97+(i:Int))] 5)):=by
  refine Va.string (l:=wO i) (.inr ⟨_,2,rfl,λj hj=>?_⟩);have hn:=dM w (.cells #[.int .u8 98,.int .u8 (97+(i:Int))] 5)
  have e1:((UInt8.ofNat (97+i)).toNat:Int)=97+(i:Int):=by rw[fE,bu ae];omega
  have hj2:j<2:=hj
  match j,hj2 with
  |0,_=>
   show World.cell? _ ⟨w.heap.size,0,none⟩=_;simp only[World.cell?,hn];rfl
  |1,_=>
   show World.cell? _ ⟨w.heap.size,1,none⟩=some (.int .u8 ((UInt8.ofNat (97+i)).toNat:Int));rw[e1];simp only[World.cell?,hn];rfl
 go_wp2;go_ret;exact⟨rfl,(aA _ _).alloc (ak _) _⟩
theorem agF{i j:Nat}(hi:i<26)(hj:j<26)(h:wO i=wO j):i=j:=by
 have e:UInt8.ofNat (97+i)=UInt8.ofNat (97+j):=by unfold wO at h;simpa using h
 have:=aP UInt8.toNat e;rw[fE,fE,bu ae,bu ae]at this;omega
theorem acz(k n c:Int):yP ((TU k n:Nat):Int) ((Ie n:Nat):Int) ((XC c:Nat):Int):=by have:=Vh n;have:=agA k n;have:=agE c;refine⟨?_,ae,ae⟩;unfold zT;omega
theorem adn{m:Nat}{f:Nat->qQ}{xs:Nat->Nat}(hx:∀i,i<m->xs i<26)(hd:∀i j,i<j->j<m->xs i≠xs j)(hk:∀i,i<m->(f i).k=wO (xs i)):tX m f:=
 ⟨λi hi=>by rw[hk i hi];exact⟨by simp[wO],by simp[wO]⟩,λi j h1 h2 e=>hd i j h1 h2 (agF (hx i ae) (hx j h2) (by rw[<-hk i ae,<-hk j h2];exact e))⟩
structure ArI(h:Nat)(w:World)(i:Nat)(f:Nat->qQ)(D:Nat->List UInt8)(va:Value)(wr:World):Prop where
 own:wr.ownsRow h 44 2 va i (vg i f)
 nm:∀j,j<i->(f j).k=wO j
 len:∀j,j<i->(D j).length<14
 dat:∀j,j<i->∃B,wr.ownsRow B 5 1 (f j).d (D j).length (rF (D j))
 bel:Below h w wr
structure BlI(i pb:Nat)(w:World)(L:List UInt8)(vd:Value)(wq:World):Prop where
 row:qf wq pb [qV (wO i),vd] 44
 own:wq.ownsRow (pb+1) 5 1 vd L.length (rF L)
 bel:Below w.heap.size w wq
 pb:w.heap.size<=pb
theorem akv{w:World}{B n:Nat}{v:Value}{xs:List Value}(h:w.ownsRow B 5 1 v n xs)(k:List UInt8):∃e:qQ,e.k=k/\e.d=v:=by
 rcases h.2 with⟨h1,h2⟩|⟨g,cap,cur,rfl,h2,h3,h4,_⟩
 .subst h1;exact⟨⟨k,none,0,0⟩,rfl,rfl⟩
 .exact⟨⟨k,some ⟨g,0,none⟩,_,cap⟩,rfl,rfl⟩
theorem MX{w:World}{B:Nat}{e:qQ}{L:List UInt8}(h:w.ownsRow B 5 1 e.d L.length (rF L)):xE w e L:=by
 rcases h.2 with⟨h1,h2⟩|⟨g,cap,cur,h1,h2,h3,h4,_⟩
 .unfold qQ.d at h1;cases h1':e.a with
  |none=>
   rw[h1']at h1;simp only[Value.slice.injEq,true_and]at h1;exact⟨ae,.inl ⟨h1',h1.1,h1.2⟩⟩
  |some x=>rw[h1']at h1;simp at h1
 .have h1':=h1;unfold qQ.d at h1';simp only[Value.slice.injEq]at h1';refine⟨h1'.2.1.symm,.inr ⟨_,h1'.1,λj u hj=>?_⟩⟩;have hl:j<(rF L).length:=(dH.1 hj).1;rw[h1]at h;rw[ab8,aS,h.cellAt j (by simpa[rF]using hl)];exact hj
theorem ArI.next{h i pb:Nat}{w wr wq:World}{f:Nat->qQ}{D:Nat->List UInt8}{va vd:Value}{L:List UInt8}(H:ArI h w i f D va wr)(hB:BlI i pb wr L vd wq)(hh:h<=wr.heap.size):
  ∃e:qQ,e.k=wO i/\e.d=vd/\wq.ownsRow h 44 2 va i (vg i f)/\wq.ownsRow (pb+1) 5 1 e.d L.length (rF L)/\(∀j,j<i->∃B,wq.ownsRow B 5 1 (f j).d (D j).length (rF (D j)))/\Below h w wq:=by
 obtain⟨e,h1,h2⟩:=akv hB.own (wO i)
 exact⟨e,h1,h2,rX H.own λg hg=>hB.bel.block g (H.own.lt g hg).2,h2▸hB.own,λj hj=>by obtain⟨B,hBj⟩:=H.dat j hj;exact⟨B,rX hBj λg hg=>hB.bel.block g (hBj.lt g hg).2⟩,H.bel.trans (hB.bel.mono hh)⟩
theorem agG{k:Nat}(h:k<256):(k:Int)=(((UInt8.ofNat k).toNat:Nat):Int):=by rw[fE,bu h]
theorem BlI.akw{i pb:Nat}{w wq w1:World}{L:List UInt8}{vd:Value}{o:Obj}(H:BlI i pb w L vd wq)(hg:(wq.alloc o).grownBy w1 vd.ownBlock):qf w1 pb [qV (wO i),vd] 44:=by have hlt:=H.row.lt;have e:=hg.block pb az (λe=>by have:=(H.own.lt pb e.symm).1;omega);unfold qf;rw[e,bK _ _ _ hlt];exact H.row
theorem BlI.add{i pb:Nat}{w wq w1:World}{L:List UInt8}{vd v':Value}{o:Obj}(H:BlI i pb w L vd wq)(x:UInt8)(ho:w1.ownsRow (pb+1) 5 1 v' (L.length+1) (rF L++[.int .u8 (x.toNat:Int)]))(hg:(wq.alloc o).grownBy w1 vd.ownBlock):BlI i pb w (L++[x]) v' (w1.setCell ⟨pb,1,none⟩ v'):=by
 have hlt:=H.row.lt;have hp:=H.pb;refine⟨(H.akw hg).set 1 v',?_,?_,hp⟩
 .have e:rF (L++[x])=rF L++[.int .u8 (x.toNat:Int)]:=dY;rw[e,aQ];exact rX ho λg hg=>jA _ _ _ _ (by have:=(ho.lt g hg).1;show g≠pb;omega)
 .have h1:=(H.bel.alloc (iI (anJ hp hlt)) o).grown hg az (λx hx=>by have:=(H.own.lt x hx).1;omega);exact h1.setCell hp _
theorem al4(z:Int):∃y:Nat,y<256/\IntKind.u8.wrap z=(y:Int):=by
 have h:IntKind.u8.wrap z=z%256:=by simp[IntKind.wrap,IntKind.bits,IntKind.signed]
 exact⟨(z%256).toNat,ae,by rw[h];omega⟩
theorem aaF(k:List UInt8)(a:Option Addr)(l c:Nat):∀u∈[Value.string ⟨k.toArray⟩,.slice a l c],u.oneCell'=true:=by exact arO
theorem ArI.add{h i pb:Nat}{w wr0 wr w1:World}{f:Nat->qQ}{D:Nat->List UInt8}{va v':Value}{o:Obj}{e:qQ}{L:List UInt8}(H:ArI h w i f D va wr0)(ho:w1.ownsRow h 44 2 v' (i+1) (vg i f++[.string ⟨(wO i).toArray⟩,.slice e.a e.l e.c]))(hg:(wr.alloc o).grownBy w1 va.ownBlock)(he:e.k=wO i)(hL:L.length<14)
  (hd:wr.ownsRow (pb+1) 5 1 e.d L.length (rF L)) (hdd:∀j,j<i->∃B,wr.ownsRow B 5 1 (f j).d (D j).length (rF (D j))) (hb:Below h w wr) (hown:wr.ownsRow h 44 2 va i (vg i f)) (hw:h<=wr.heap.size):ArI h w (i+1) (λj=>if j=i then e else f j) (λj=>if j=i then L else D j) v' w1:=by
 have hk:∀{B n:Nat}{v:Value}{xs:List Value},wr.ownsRow B 5 1 v n xs->w1.ownsRow B 5 1 v n xs:=λhx=>rX hx λg hg'=>by have hlt:=(hx.lt g hg').2;rw[hg.block g az (λe=>CJ hown hx au e.symm hg'),bK _ _ _ hlt]
 refine⟨?_,λj hj=>?_,λj hj=>?_,λj hj=>?_,(hb.alloc hw o).grown hg az (λx hx=>(hown.lt x hx).1)⟩
 .rw[zB,Ns (g:=f) λj hj=>by simp;intro h;omega];have e1:E5 (if i=i then e else f i)=[.string ⟨(wO i).toArray⟩,.slice e.a e.l e.c]:=by rw[aj rfl,E5,he];rfl
  rw[e1];exact ho
 .split
  .rename_i h1;rw[h1];exact he
  .exact H.nm j ae
 .split
  .exact hL
  .exact H.len j ae
 .split
  .exact⟨_,hk hd⟩
  .obtain⟨B,h1⟩:=hdd j ae;exact⟨B,hk h1⟩
def InR(i pb sz len:Nat)(w:World)(vat vk:Value)(wq:World):Prop:=∃(k q:Nat)(L:List UInt8)(vd:Value),k<=sz/\k=L.length/\q<=len/\vk=.int .i64 ((k:Nat):Int)/\vat=.int .i64 ((q:Nat):Int)/\BlI i pb w L vd wq
def am5(h n len:Nat)(w:World)(va vat vi:Value)(wr:World):Prop:=∃(i q:Nat)(f:Nat->qQ)(D:Nat->List UInt8),i<=n/\q<=len/\vi=.int .i64 ((i:Nat):Int)/\vat=.int .i64 ((q:Nat):Int)/\ArI h w i f D va wr
def akx(w:World)(e:Ending)(w':World):Prop:=∃v m f D,e=.returned v/\m<=5/\ArI w.heap.size w m f D v w'
theorem Yp(vr:Value)(zs:List Int)(w:World)(hz:Ints w vr zs)(hlen:zs.length<9223372036854775807):
  Calls Tryz.prog 7 #[vr] w λe w'=>akx w e w':=by
 obtain⟨i0,hi0,hz0,hz1,hz2⟩:=bg Au;obtain⟨i1,hi1,hy0,hy1,hy2⟩:=bg Tryz.JM;obtain⟨bo,cap2,rfl,hop⟩:=hz.open;by_cases h0:zs.length=0
 .go_enter Tryz.func7,Tryz.ntmps7;have e0:(zs.length:Int)=0:=ae;go_wp2;go_ret;exact⟨_,0,λ_=>⟨[],none,0,0⟩,λ_=>[],rfl,ae,⟨bT _ _ _ _,λj hj=>absurd hj ae,λj hj=>absurd hj ae,λj hj=>absurd hj ae,aA _ _⟩⟩
 .obtain⟨b,off,rfl,hb,hcell⟩:=hop ae;clear hop
  have cz:∀j,j<zs.length->∃z,w.cell? ⟨b,off+j,none⟩=some (.int .i64 z)/\In64 z:=λj hj=>by have hzj:zs[j]?=some zs[j]:=aY hj;exact⟨_,hcell j _ hzj,hz.aaA _ (iy hzj)⟩
  obtain⟨z0,hc0,hin0⟩:=cz 0 ae;rw[fG]at hc0;have hl0:(0:Int)<(zs.length:Int):=ae;have hn0:¬((zs.length:Int)=0):=ae;have hp:=pick_any z0 6 6 rfl hin0.1 hin0.2 ae ae;have hpl:=x_ z0 (show 0<6 by omega);go_enter Tryz.func7,Tryz.ntmps7;generalize x9 z0 6=n at hp hpl;clear hcell hz h0
  go_wp2_with(first|(go_at_call 10;(with_reducible refine(hp _).mono ?_);rintro e w' ⟨rfl,hw'⟩;obtain rfl:=hw'.symm))
  have hb':=hb;generalize hh:w.heap.size=h at*;have start:ArI h w 0 (λ_=>⟨[],none,0,0⟩) (λ_=>[]) (.slice none 0 0) w:=⟨bT _ _ _ _,λj hj=>absurd hj ae,λj hj=>absurd hj ae,λj hj=>absurd hj ae,aA _ _⟩
  go_loopw [3,5,6,7,8,9,10] (λva vat vi _ _ _ _ wr=>am5 h n zs.length w va vat vi wr) (λ_ _ vi _ _ _ _ _=>n-(intOf vi).toNat)
  case atStart=>exact⟨0,1,_,_,ae,ae,rfl,rfl,start⟩
  case round=>
   clear start hc0 hin0 hp;obtain⟨i,q,f,D,hi,hq,rfl,rfl,H⟩:=hrel;have hs:h<=wr.heap.size:=by rw[<-hh];exact H.bel.size
   by_cases hlt:i<n
   .have hlt':(i:Int)<(n:Int):=ae;have kn:=name_any i ae;simp only[qV]at kn;by_cases hql:q<zs.length
    case' pos=>
     have agH:(q:Int)<(zs.length:Int):=ae;obtain⟨z,hcz,hin⟩:=cz q hql;have kp:=pick_any z 14 14 rfl hin.1 hin.2 ae ae;have hsz:=x_ z (show 0<14 by omega);generalize x9 z 14=sz at kp hsz;rw[<-H.bel.cell (p:=⟨b,off+q,none⟩) hb]at hcz
     go_wp2_with(first
      |(go_at_call 14;(with_reducible refine(kn _).mono ?_);rintro e w1 ⟨rfl,hb1⟩;have hcq:=(((aA w1.heap.size w1).alloc (ak _) (.cells #[qV (wO i),.slice none 0 0] 44)).cell (p:=⟨b,off+q,none⟩) (aN (aN hb hs) hb1.size)).trans ((hb1.cell (p:=⟨b,off+q,none⟩) (aN hb hs)).trans hcz);simp only[qV]at hcq)
      |(go_at_call 10;(with_reducible refine(kp _).mono ?_);rintro e w' ⟨rfl,hw'⟩;obtain rfl:=hw'.symm))
     clear kp hcz hin hcq agH;have hq1:q+1<=zs.length:=ae;clear hql
    case' neg=>
     have agH:¬((q:Int)<(zs.length:Int)):=ae;obtain⟨sz,hsz,esz⟩:∃sz:Nat,sz<14/\((sz:Nat):Int)=0:=⟨0,ae,rfl⟩;have hq1:q<=zs.length:=hq
     go_wp2_with(first
      |(go_at_call 14;(with_reducible refine(kn _).mono ?_);rintro e w1 ⟨rfl,hb1⟩))
     rw[<-esz];have ez:sz<1:=ae;clear agH hql esz
    all_goals
     have hB0:BlI i w1.heap.size wr [] (.slice none 0 0) (w1.alloc (.cells #[qV (wO i),.slice none 0 0] 44)):=⟨qf.made w1 [qV (wO i),.slice none 0 0] 44,bT _ _ _ _,hb1.alloc hb1.size _,hb1.size⟩;simp only[qV]at hB0;generalize w1.alloc (.cells #[.string ⟨(wO i).toArray⟩,.slice none 0 0] 44)=ws at hB0⊢;generalize w1.heap.size=pb at hB0⊢;clear hb1 kn
     go_loopw [5,9,10] (λvat vk _ wq=>InR i pb sz zs.length wr vat vk wq) (λ_ vk _ _=>sz-(intOf vk).toNat)
     case atStart=>first|exact⟨0,q+1,[],_,ae,rfl,hq1,rfl,aV,hB0⟩|exact⟨sz,_,[],_,ae,az,hq1,rfl,rfl,hB0⟩
     case round=>
      rename_i wq;clear hB0 hq1;obtain⟨k,q,L,vd,hk,rfl,hq,rfl,rfl,hB⟩:=hrel;by_cases hks:L.length<sz
      .first|(exfalso;omega)|skip
       all_goals
        have am6:(L.length:Int)<(sz:Int):=ae;have c0:=hB.row.cell (i:=0) rfl;have c1:=hB.row.cell (i:=1) rfl;simp only[qV]at c0;by_cases hql:q<zs.length
        case' pos=>
         have agH:(q:Int)<(zs.length:Int):=ae;obtain⟨z,hcz,hin⟩:=cz q hql;have hwq:=H.bel.trans (hB.bel.mono hs);rw[<-hwq.cell (p:=⟨b,off+q,none⟩) hb]at hcz;obtain⟨y,hy,hx⟩:=al4 z
         go_wp2_with(at_builtin;go_loud (refine dF _ rfl _ _ 34 rfl (pb+1) 5 i0 (.int .u8 0) 1 1 Tryz.underlying34 hi0 hz0 hz1 hz2 rfl au _ _ _ rfl (hB.own.alloc _) ⟨wr.heap.size,0,none⟩ 1 1 [.int .u8 (y:Int)] rfl rfl (zM _ _ _) (afm _) bH ae ap0 ?_;intro v' w1 hown' hgrow _;obtain⟨gg,cc,rfl,_,_⟩:=hown'.form ae;have hr1:=hB.akw hgrow;have d0:=hr1.cell (i:=0) rfl;have d1:=hr1.cell (i:=1) rfl;have f1:=hr1.frozen 1;have hB2:=hB.add (UInt8.ofNat y) (by rw[<-agG (k:=y) hy];exact hown') hgrow;simp only[qV]at d0;clear hown' hgrow hr1 c0 c1))
        case' neg=>
         have agH:¬((q:Int)<(zs.length:Int)):=ae
         go_wp2_with(at_builtin;go_loud (refine dF _ rfl _ _ 34 rfl (pb+1) 5 i0 (.int .u8 0) 1 1 Tryz.underlying34 hi0 hz0 hz1 hz2 rfl au _ _ _ rfl (hB.own.alloc _) ⟨wr.heap.size,0,none⟩ 1 1 [.int .u8 (L.length:Int)] rfl rfl (zM _ _ _) (afm _) bH ae ap0 ?_;intro v' w1 hown' hgrow _;obtain⟨gg,cc,rfl,_,_⟩:=hown'.form ae;have hr1:=hB.akw hgrow;have d0:=hr1.cell (i:=0) rfl;have d1:=hr1.cell (i:=1) rfl;have f1:=hr1.frozen 1;have hB2:=hB.add (UInt8.ofNat L.length) (by rw[<-agG (k:=L.length) ae];exact hown') hgrow;simp only[qV]at d0;clear hown' hgrow hr1 c0 c1))
        all_goals
         go_roundw
         case rel=>first|exact⟨L.length+1,q+1,L++[UInt8.ofNat y],_,ae,ai,ae,aV,aV,hB2⟩|exact⟨L.length+1,q,L++[UInt8.ofNat L.length],_,ae,ai,ae,aV,rfl,hB2⟩
         case measure=>simp[intOf];omega
      .have am6:¬((L.length:Int)<(sz:Int)):=ae;obtain⟨e,he1,he2,ho,hd,hdd,hbb⟩:=H.next hB hs;have c0:=hB.row.cell (i:=0) rfl;have c1:=hB.row.cell (i:=1) rfl;rw[<-he2]at c1;simp only[qV,qQ.d]at c0 c1;have hpb:=hB.row.lt;have hwh:h<=wr.heap.size:=by rw[<-hh];exact hbb.size
       clear hB he2
       go_wp2_with(at_builtin;go_loud (refine dF _ rfl _ _ 26 rfl h 44 i1 (.agg #[.string ⟨#[]⟩,.slice none 0 0]) 2 40 Tryz.underlying26 hi1 hy0 hy1 hy2 rfl au _ _ _ rfl (ho.alloc _) ⟨wr.heap.size,0,none⟩ 1 1 [.string ⟨(wO i).toArray⟩,.slice e.a e.l e.c] rfl rfl (cell_two_new _ _ _ _) (aaF _ _ _ _) bH ae az ?_;intro v' w1 hown' hgrow _))
       go_roundw
       case rel=>exact⟨i+1,q,λj=>if j=i then e else f j,λj=>if j=i then L else D j,ae,hq,aV,rfl,H.add hown' hgrow he1 ae hd hdd hbb ho hwh⟩
       case measure=>simp[intOf];omega
   .obtain rfl:i=n:=ae;have hnl:¬((i:Int)<(i:Int)):=ae;go_wp2;go_ret;exact⟨_,i,f,D,rfl,ae,hh▸H⟩
end Go.Proofs.Y
namespace Go.Proofs.Y
open Go.RowKit Go.Deep Go.Lf Go.Conc Go.Hp
def turn(f:Nat->qQ)(xs:List Nat):Nat->qQ:=λj=>f (xs.getD j 0)
structure XB(K N C m:Nat)(f:Nat->qQ)(D:Nat->List UInt8)(pb:Nat)(vb:Value)(w:World):Prop where
 par:qf w pb [.int .i64 ((K:Nat):Int),.int .i64 ((N:Nat):Int),.int .i64 ((C:Nat):Int)] 24
 own:∃B,w.ownsRow B 44 2 vb m (vg m f)
 nm:∀j,j<m->(f j).k=wO j
 len:∀j,j<m->(D j).length<14
 dat:∀j,j<m->∃B,w.ownsRow B 5 1 (f j).d (D j).length (rF (D j))
 hm:m<=5
structure SmS(h0 K N C m:Nat)(f:Nat->qQ)(D:Nat->List UInt8)(xs:List Nat)(pb:Nat)(vb vt:Value)(w:World):Prop where
 pre:XB K N C m f D pb vb w
 owt:∃B,h0<=B/\w.ownsRow B 44 2 vt m (vg m (turn f xs))
 once:Once m xs
theorem Ints.bel{w w':World}{v:Value}{zs:List Int}{B:Nat}(h:Ints w v zs)(hb:rJ B w w')(hB:w.heap.size<=B):Ints w' v zs:=by
 refine⟨h.aaA,?_⟩;rcases h.lies with h1|⟨b,off,cap,h1,h2,h3⟩
 .exact .inl h1
 .refine .inr ⟨b,off,cap,h1,aN h2 hb.size',λj z hz=>?_⟩;have:=h3 j z hz;unfold World.cell? at this⊢;rw[hb.blk (aN h2 hB)];exact this
section
variable {X:Nat->Prop}{Y:Nat->Option Obj}{D:Nat->World->Array Event->Prop}{Stop:Goroutine->World->Prop}{w:World}
end
theorem O6{w w':World}{B e z n:Nat}{v:Value}{xs:List Value}(h:w.ownsRow B e z v n xs)(hs:Sub w w'):w'.ownsRow B e z v n xs:=by
 refine⟨h.1,?_⟩;rcases h.2 with h1|⟨g,cap,cur,h1,h2,h3,h4⟩
 .exact .inl h1
 .exact .inr ⟨g,cap,cur,h1,h2,hs.2 _ _ _ _ h3,h4⟩
theorem XB.sub{K N C m:Nat}{f:Nat->qQ}{D:Nat->List UInt8}{pb:Nat}{vb:Value}{w w':World}(h:XB K N C m f D pb vb w)(hs:Sub w w'):XB K N C m f D pb vb w':=
 ⟨hs.row h.par,by obtain⟨B,h1⟩:=h.own;exact⟨B,O6 h1 hs⟩,h.nm,h.len,λj hj=>by obtain⟨B,h1⟩:=h.dat j hj;exact⟨B,O6 h1 hs⟩,h.hm⟩
def ZQ(D:Nat->List UInt8)(e:qQ):List UInt8:=D ((e.k.getD 1 0).toNat-97)
theorem afC(D:Nat->List UInt8){e:qQ}{j:Nat}(hj:j<26)(h:e.k=wO j):ZQ D e=D j:=by
 unfold ZQ;rw[h]
 have:((wO j).getD 1 0).toNat=97+j:=by show(UInt8.ofNat (97+j)).toNat=97+j;rw[fE,bu ae]
 rw[this,gX]
section
variable {h0 K N C m:Nat}{f:Nat->qQ}{D:Nat->List UInt8}{xs:List Nat}{pb:Nat}{vb vt:Value}{w:World}
theorem ail{f':Nat->qQ}{v:Value}{B:Nat}(h:XB K N C m f D pb vb w)(ho:w.ownsRow B 44 2 v m (vg m f'))(hf:∀i,i<m->∃j,j<m/\f' i=f j):∃bo cap,v=.slice bo m cap/\UG w bo m cap f' (ZQ D):=by
 obtain⟨bo,cap,rfl,h1,h2,hB⟩:=BC.aa5 ho;have hm:=h.hm;refine⟨bo,cap,rfl,ae,h1,h2,λi hi=>?_,λi hi=>?_,hB,λi hi=>?_⟩
 .obtain⟨j,hj,e⟩:=hf i hi;rw[e,h.nm j hj];simp[wO]
 .obtain⟨j,hj,e⟩:=hf i hi;obtain⟨B,hd⟩:=h.dat j hj;have h1:=(MX hd).1;have h2:=h.len j hj;rw[e];omega
 .obtain⟨j,hj,e⟩:=hf i hi;obtain⟨B,hd⟩:=h.dat j hj;rw[e,afC D ae (h.nm j hj)];exact MX hd
theorem XB.args(h:XB K N C m f D pb vb w):∃bo cap,vb=.slice bo m cap/\UG w bo m cap f (ZQ D):=by obtain⟨B,ho⟩:=h.own;exact ail h ho λi hi=>⟨i,hi,rfl⟩
theorem XB.fits(h:XB K N C m f D pb vb w):tX m f:=adn (xs:=id) (λi hi=>by have:=h.hm;show i<26;omega) (λi j h1 h2=>by show i≠j;omega) h.nm
theorem XB.alr(h:XB K N C m f D pb vb w):∀j,j<m->(f j).k.length=2/\(f j).l<14:=λj hj=>by obtain⟨B,hd⟩:=h.dat j hj;have h1:=(MX hd).1;have h2:=h.len j hj;exact⟨by rw[h.nm j hj];rfl,ae⟩
end
theorem aim{n:Nat}{f g:Nat->qQ}(hR:qK n f g)(h:tX n f):tX n g:=by
 refine⟨λi hi=>?_,λi j h1 h2 e=>?_⟩
 .obtain⟨j,hj,e⟩:=hR.from hi;rw[e];exact h.1 j hj
 .obtain⟨i',j',a1,a2,a3,a4,a5⟩:=hR.two (i:=i) (j:=j) ae h2 ae;rw[a4,a5]at e;rcases aT i' j' with hlt|hge
  .exact h.2 i' j' hlt a2 e
  .exact h.2 j' i' ae a1 e.symm
theorem ado{n:Nat}{g:Nat->qQ}(hS:Srt n g)(h:tX n g):∀i,i+1<n->Hp.lt (g i).k (g (i+1)).k=true:=λi hi=>by
 have h1:=hS i hi;rcases Hp.Ee (g i).k (g (i+1)).k with⟨h2,_,_⟩|⟨h2,_,_⟩|⟨h2,_,_⟩
 .exact h2
 .have h1':Hp.lt (g (i+1)).k (g i).k=false:=h1;rw[h1']at h2;cases h2
 .exact absurd h2 (h.2 i (i+1) ae hi)
theorem XD{n:Nat}{f g g':Nat->qQ}(h:tX n f)(a:qK n f g)(b:qK n f g')(hg:Srt n g)(hg':Srt n g'):∀i,i<n->g' i=g i:=
 Zm a b (ado hg (aim a h)) hg'
theorem agI{α:Type}(l:List α)(F:α->Nat)(c:Nat)(h:∀x∈l,F x<=c):(l.map F).sum<=c*l.length:=by
 induction l with
 |nil=>simp
 |cons a l ih=>
  have h1:=h a ai;have h2:=ih λx hx=>h x jM
  simp only[fH,jc,bM,Nat.mul_succ];omega
theorem afF{m:Nat}{f g:Nat->qQ}(hm:m<=5)(h:∀j,j<m->(f j).k.length=2/\(f j).l<14)(hR:qK m f g):Ik (qA m g) (qC m g):=by
 have hg:∀i,i<m->(g i).k.length=2/\(g i).l<14:=λi hi=>by obtain⟨j,hj,e⟩:=hR.from hi;rw[e];exact h j hj
 refine⟨by rw[uu];omega,?_,?_⟩
 .unfold tot
  have:=agI (qC m g) Int.toNat 14 λx hx=>by simp only[qC,eX,gp]at hx;obtain⟨i,hi,rfl⟩:=hx;have:=hg i hi;omega
  rw[wP]at this;omega
 .unfold FC
  have:=agI (qA m g) (λn=>6+n.length) 8 λx hx=>by simp only[qA,eX,gp]at hx;obtain⟨i,hi,rfl⟩:=hx;have:=hg i hi;omega
  rw[uu]at this;omega
section
open Go.Conc
variable {P:Program}{X:Nat->Prop}{Y:Nat->Option Obj}{D:Nat->World->Array Event->Prop}{Stop:Goroutine->World->Prop}{f:FuncId}{v:World}
theorem acA(hD0:uo X D){T:Array Value}{k:List Item}{fn:Func}(hf:P.funcs[f]?=some fn)(hin:P.inits.idxOf? f=none){y:Value}(hres:∀u,(results fn T).runT P u #[]=(.ok y u,#[]))
  (h:∀w d,qH X Y w v->(∀d',stepG P true (G {Dn none [] f T (.code .ret::k)with mode:=.returning} []) (w.at d')=.ended (.done y) (w.at d') #[])->Stop (G {Dn none [] f T (.code .ret::k)with mode:=.returning} []) (w.at d)):qR P X Y D Stop none [] f [] (.code .ret::k) T v:=by
 intro w hs;refine .next rfl λd=>⟨G {Dn none [] f T (.code .ret::k)with mode:=.returning} [],w.at d,#[],rfl,hD0.nil (ak _),?_⟩
 have eA:∀u,stepG P true (G {Dn none [] f T (.code .ret::k)with mode:=.returning} []) u=.ended (.done y) u #[]:=λu=>by have:=hres u;simp only[G,stepG,unwind,Dn,hf,this,seen_none,doReturn,hin,iD,bF,aU,GStep.after,Array.append_empty]
 exact .stop λd'=>h w d' hs λd''=>eA _
end
end Go.Proofs.Y
namespace Go.Proofs.Y
open Go.RowKit Go.Deep
theorem YQ(k:Nat)(hk:k<=255):b8 (k:Int)=UInt8.ofNat k:=by unfold b8;rw[gy,bu ae]

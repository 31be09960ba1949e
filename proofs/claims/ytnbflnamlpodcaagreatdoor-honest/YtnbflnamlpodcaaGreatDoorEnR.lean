import Derived.Test.YtnbflnamlpodcaaGreatDoorWrJ
set_option maxHeartbeats 8000000
set_option maxRecDepth 100000
namespace Go.Proofs.Y
open Go.Proofs.Tryz
open Go.RowKit Go.Deep Go.Lf Go.Conc
def gRd:Code->Code
 | .rangeFunc _ _ _ c=>c
 |c=>c
def gAs:Code->Code
 | .rangeFunc _ _ c _=>c
 |c=>c
section
variable {X:Nat->Prop}{Y:Nat->aV}{D:Nat->ah->aH->Prop}{Stop:aG->ah->Prop}{v:ah}{cs:aP}{QB:aJ}
noncomputable def ajl:Code:=Tryz.f55.body.getD .skip
theorem sfH:∃fn,prog.funcs[55]?=some fn:=⟨_,func55⟩
theorem ape(hD:uU X D)(ba:aY)(len cap c:Nat)(hc:1<=c)
  (qJ:∀w,qQ X Y w ((v.alloc (.cells #[.slice ba len cap] 34)).alloc (.cells #[.int .i64 (c:Int)] 3))->r_ prog D Stop (G (QB.finish (.func (.func 99) #[] #[.pointer (some ⟨v.heap.size,0,none⟩),.pointer (some ⟨v.heap.size+1,0,none⟩)])) cs) w):
  rC prog X Y D Stop none [] 55 (QB::cs) [.code ajl] (#[.slice ba len cap,.int .i64 (c:Int)]++Array.replicate 7 undef) v:=by
 unfold ajl;simp only[Tryz.f55,aQ,dR,dQ,dM,dP,dA,bT];refine qy hD (rF qV hD aj sfH λR hR τ d=>?_);go_wp2;change rC _ _ _ _ _ _ _ _ _ _ _ ((v.alloc (.cells #[.slice ba len cap] 34)).alloc (.cells #[.int .i64 (c:Int)] 3))
 have hN:((v.alloc (.cells #[.slice ba len cap] 34)).alloc (.cells #[.int .i64 (c:Int)] 3)).cell? ⟨v.heap.size+1,0,none⟩=some (.int .i64 (c:Int)):=by have:=(Boxed.new (v.alloc (.cells #[.slice ba len cap] 34)) 3 (.int .i64 (c:Int))).cell;rw[nD]at this;exact this
 generalize(v.alloc (.cells #[.slice ba len cap] 34)).alloc (.cells #[.int .i64 (c:Int)] 3)=W at hN qJ⊢;have hnc:¬((c:Int)<1):=ag;refine qy hD (qy hD (rF qV hD aj sfH λR hR τ d=>?_));have cN:({W with tape:=τ,drawn:=d}:ah).cell? ⟨v.heap.size+1,0,none⟩=some (.int .i64 (c:Int)):=hN;go_wp2;change rC _ _ _ _ _ _ _ _ _ _ _ W;refine xu (b:=false) hD ax (Et hD (qy hD (rF qV hD aj sfH λR hR τ d=>?_)));go_wp2;change rC _ _ _ _ _ _ _ _ _ _ _ W;refine Ju (a:=⟨_,[]⟩) hD rfl func55 (λτ d=>lH (fn:=Tryz.f55) (t:=4) rfl _ _ _) ?_;exact qJ
end
noncomputable def MQ:Code:=Tryz.f99.body.getD .skip
noncomputable def BG:Code:=Qh (Qh (qA MQ))
noncomputable def qk1:{x:Array Oper//x=uq (qM (qM BG))}:=⟨_,by(simp only[MQ,BG,Qh,qM,qA,uq,Tryz.f99,aQ];rfl)⟩
noncomputable def qk2:{x:Array Oper//x=uq (qA (qA BG))}:=⟨_,by(simp only[MQ,BG,Qh,qA,uq,Tryz.f99,aQ];rfl)⟩
noncomputable def qk3:{x:Array Oper//x=uq (qM (Qh (qM (qA BG))))}:=⟨_,by(simp only[MQ,BG,Qh,qM,qA,uq,Tryz.f99,aQ];rfl)⟩
noncomputable def qk4:{x:Array Oper//x=uq (qM (qA (Qh (qM (qA BG)))))}:=⟨_,by(simp only[MQ,BG,Qh,qM,qA,uq,Tryz.f99,aQ];rfl)⟩
noncomputable def kO1:Array Oper:=qk1.1
noncomputable def kO2:Array Oper:=qk2.1
noncomputable def kO3:Array Oper:=qk3.1
noncomputable def kO4:Array Oper:=qk4.1
theorem abz:BG=.seq (.seq (.region 1 kO1 false) (.cond (.tmp 9) .skip (.exit 0))) (.seq (.block 1 (.seq (.region 3 kO3 true) (.seq (.region 4 kO4 false) (.cond (.tmp 30) .ret .skip)))) (.region 2 kO2 false)):=aj
theorem ajm:MQ=.seq (.region 0 (uq (qM MQ)) false) (.block 0 (.loop BG)):=aj
theorem ajn:kO4.size=12:=aj
theorem sfK:∃fn,prog.funcs[99]?=some fn:=⟨_,func99⟩
def TKi(l sb nb:Nat)(x:Int)(T:aB):Prop:=∃f:Nat->ai,T=#[.func (.yield l) #[] #[],.pointer (some ⟨sb,0,none⟩),.pointer (some ⟨nb,0,none⟩),f 3,.int .i64 x,f 5,f 6,f 7,f 8,f 9,f 10,f 11,f 12,f 13,f 14,f 15,f 16,f 17,f 18,f 19,f 20,f 21,f 22,f 23,f 24,f 25,f 26,f 27,f 28,f 29,f 30]
theorem anZ{l sb nb:Nat}{x:Int}{T:aB}(h:T=#[.func (.yield l) #[] #[],.pointer (some ⟨sb,0,none⟩),.pointer (some ⟨nb,0,none⟩),ae T 3,.int .i64 x,ae T 5,ae T 6,ae T 7,ae T 8,ae T 9,ae T 10,ae T 11,ae T 12,ae T 13,ae T 14,ae T 15,ae T 16,ae T 17,ae T 18,ae T 19,ae T 20,ae T 21,ae T 22,ae T 23,ae T 24,ae T 25,ae T 26,ae T 27,ae T 28,ae T 29,ae T 30]):TKi l sb nb x T:=⟨λi=>T.getD i undef,h⟩
def TK(l sb nb p:Nat)(T:aB):Prop:=TKi l sb nb ((p:Nat):Int) T
def TK5(l sb nb p m:Nat)(T:aB):Prop:=∃f:Nat->ai,T=#[.func (.yield l) #[] #[],.pointer (some ⟨sb,0,none⟩),.pointer (some ⟨nb,0,none⟩),f 3,.int .i64 ((p:Nat):Int),.int .i64 ((m:Nat):Int),f 6,f 7,f 8,f 9,f 10,f 11,f 12,f 13,f 14,f 15,f 16,f 17,f 18,f 19,f 20,f 21,f 22,f 23,f 24,f 25,f 26,f 27,f 28,f 29,f 30]
theorem ajo{l sb nb p m:Nat}{T:aB}(h:T=#[.func (.yield l) #[] #[],.pointer (some ⟨sb,0,none⟩),.pointer (some ⟨nb,0,none⟩),ae T 3,.int .i64 ((p:Nat):Int),.int .i64 ((m:Nat):Int),ae T 6,ae T 7,ae T 8,ae T 9,ae T 10,ae T 11,ae T 12,ae T 13,ae T 14,ae T 15,ae T 16,ae T 17,ae T 18,ae T 19,ae T 20,ae T 21,ae T 22,ae T 23,ae T 24,ae T 25,ae T 26,ae T 27,ae T 28,ae T 29,ae T 30]):TK5 l sb nb p m T:=⟨λi=>T.getD i undef,h⟩
section
variable {X:Nat->Prop}{Y:Nat->aV}{D:Nat->ah->aH->Prop}{Stop:aG->ah->Prop}{v:ah}{cs:aP}{QB:aJ}
theorem amz(hD:uU X D)(l sb nb b off len cap c:Nat)(hc:1<=c)(Wq:c<=65536)(hlen:len<=1000000)(Ci:len<=cap)(ba:aY)(hba:0<len->ba=some ⟨b,off,none⟩)(r:Loop)(hps:r.params.size=1)(hO:U0 X Y l)
  (Inv:Nat->ah->Prop) (hI:∀j v,Inv j v->Boxed v sb 34 (.slice ba len cap)/\Boxed v nb 3 (.int .i64 (c:Int))/\v.heap[l]?=some (.loop r)) (_ate:∀j (v:ah) τ d,Inv j v->Inv j {v with tape:=τ,drawn:=d})
  (round:∀(j:Nat)(v:ah)(QB:aJ)(cs:aP),j*c<len->Inv j v->(∀v',Inv (j+1) v'->∀w,qQ X Y w v'->r_ prog D Stop (G (QB.finish (.bool true)) cs) w)->
   rC prog X Y D Stop (some l) [] r.fn (QB::cs) [.code r.assign,.beginRound,.code r.body] ((r.params.zip #[Vh b off len c j]).foldl (λtmps (t,a)=>tmps.setIfInBounds t a) r.tmps) v)
  (done:∀v,Inv (Hu c len) v->∀w,qQ X Y w v->r_ prog D Stop (G (QB.finish (.tuple #[])) cs) w):
  ∀(q j:Nat)(T:aB)(v:ah),j+q=Hu c len->TK l sb nb (j*c) T->Inv j v->rC prog X Y D Stop none [] 99 (QB::cs) [.code BG,.inLoop BG,.inBlock 0] T v:=by
 intro q
 induction q with
 |zero=>
  intro j T v hj ⟨f,hT⟩ hinv;obtain rfl:j=Hu c len:=ag;subst hT;obtain⟨hs,hn,hl⟩:=hI _ _ hinv;have Ws:¬(Hu c len*c<len):=λh=>by have:=(QF hc).2 h;omega
  have Hg:¬(((Hu c len*c:Nat):Int)<(len:Int)):=ag;generalize Hu c len*c=p at*;rw[abz];refine qy hD (qy hD (rF qV hD aj sfK λR hR τ d=>?_));have cS:=Boxed.cell (W:={v with tape:=τ,drawn:=d}) hs;simp only[kO1,qk1];go_wp2;change rC _ _ _ _ _ _ _ _ _ _ _ v;refine xu (b:=false) hD ax (Yf hD rfl ?_);exact agt hD func99 (λτ d=>results_none (fn:=Tryz.f99) rfl _ _ _) (done v hinv)
 |succ q ih=>
  intro j T v hj ⟨f,hT⟩ hinv;subst hT;obtain⟨hs,hn,hl⟩:=hI _ _ hinv;have qK:j*c<len:=(QF hc).1 ag;have KP:Hid ((j+1)*c=j*c+c):=by show _=_;rw[lQ,nJ]
  have hrd:=λQB cs=>round j v QB cs qK hinv
  obtain rfl:=hba ag;unfold Vh at hrd;generalize j*c=p at*;have Am:(p:Int)<(len:Int):=ag;obtain⟨m,em⟩:∃m,min c (len-p)=m:=⟨_,rfl⟩;rw[em]at hrd;have hm:m<=c/\m<=len-p/\1<=m:=ag;have Zc:IntKind.i64.wrap ((p:Int)+(m:Int))=(p:Int)+(m:Int):=iw;have htn:((p:Int)+(m:Int)).toNat=p+m:=ag
  have key:∀T,TK5 l sb nb p m T->rC prog X Y D Stop none [] 99 (QB::cs) [.code (.seq (.region 4 kO4 false) (.cond (.tmp 30) .ret .skip)),.inBlock 1,.code (.region 2 kO2 false),.inLoop BG,.inBlock 0] T v:=by
   rintro T ⟨f,hT⟩;subst hT;refine qy hD (xH hD ?_);rw[ajn];simp only[List.range,List.range.loop];refine qC qV hD (.func (.yield l) #[] #[]) h_ rfl aj (λz _=>a_) ?_;walk_nrm;refine qC qV hD (.slice (some ⟨b,off,none⟩) len cap) h_ rfl aj (λz hz=>by have cS:=Boxed.cell (W:=z) (show z.heap[sb]?=_ by rw[hz];exact hs);go_simp) ?_;walk_nrm;refine qC qV hD (.int .i64 (p:Int)) h_ rfl aj (λz _=>a_) ?_;walk_nrm;refine qC qV hD (.int .i64 (p:Int)) h_ rfl aj (λz _=>a_) ?_;walk_nrm;refine qC qV hD (.int .i64 (m:Int)) h_ rfl aj (λz _=>a_) ?_;walk_nrm;refine qC qV hD (.int .i64 ((p:Int)+(m:Int))) h_ rfl aj (λz _=>a_) ?_;walk_nrm;refine qC qV hD (.int .i64 (p:Int)) h_ rfl aj (λz _=>a_) ?_;walk_nrm;refine qC qV hD (.int .i64 (m:Int)) h_ rfl aj (λz _=>a_) ?_;walk_nrm;refine qC qV hD (.int .i64 ((p:Int)+(m:Int))) h_ rfl aj (λz _=>a_) ?_;walk_nrm
   refine qC qV hD (.slice (some ⟨b,off+p,none⟩) m m) h_ rfl aj (λz _=>by go_simp;rw[ay ag,ay ag,au ag]) ?_
   walk_nrm;refine adA hD (t:=19) (vs:=#[.slice (some ⟨b,off+p,none⟩) m m]) h_ rfl aI rfl gI hl hO (by rw[hps];rfl) ?_;refine hrd _ _ λv' aoh=>?_
   obtain⟨xU,hn',FI⟩:=hI _ _ aoh;rw[vM h_];show rC _ _ _ _ _ _ _ _ _ _ _ _;walk_nrm;refine qC qV hD (.bool false) h_ rfl aj (λz _=>a_) ?_;walk_nrm;refine tY hD (xu (b:=false) hD ax (Et hD (H9 hD (rF qV hD aj sfK λR hR τ d=>?_))));have cN:=Boxed.cell (W:={v' with tape:=τ,drawn:=d}) hn';simp only[kO2,qk2];go_wp2;change rC _ _ _ _ _ _ _ _ _ _ _ v';refine RS hD (ih (j+1) _ v' ag ?_ aoh);rw[KP.out];unfold TK;rw[Int.natCast_add];exact anZ rfl
  rw[show[Item.code BG,Item.inLoop BG,Item.inBlock 0]=[Item.code (.seq (.seq (.region 1 kO1 false) (.cond (.tmp 9) .skip (.exit 0))) (.seq (.block 1 (.seq (.region 3 kO3 true) (.seq (.region 4 kO4 false) (.cond (.tmp 30) .ret .skip)))) (.region 2 kO2 false))),Item.inLoop BG,Item.inBlock 0]by rw[<-abz]];refine qy hD (qy hD (rF qV hD aj sfK λR hR τ d=>?_));have cS:=Boxed.cell (W:={v with tape:=τ,drawn:=d}) hs;simp only[kO1,qk1];go_wp2;change rC _ _ _ _ _ _ _ _ _ _ _ v;refine xu (b:=true) hD ax (Et hD (qy hD (Ac hD (qy hD (rF qV hD aj sfK λR hR τ d=>?_)))));clear cS;have cS:=Boxed.cell (W:={v with tape:=τ,drawn:=d}) hs;have cN:=Boxed.cell (W:={v with tape:=τ,drawn:=d}) hn;have aqu:∀n T,TK5 l sb nb p m T->R ⟨T,[]⟩ (World.drewN {v with tape:=τ,drawn:=d} n):=λn T hT=>hR _ _ (key T hT)
  simp only[kO3,qk3];clear key hR hrd ih round done hI _ate hinv;generalize({v with tape:=τ,drawn:=d}:ah)=vv at cS cN aqu⊢;rcases bJ (len-p) c with q2|q2
  .obtain rfl:m=len-p:=ag;go_wp2
   go_quiet (fail)
   exact⟨rfl,rfl,aqu _ _ (ajo rfl)⟩
  .obtain rfl:m=c:=ag;go_wp2
   go_quiet (fail)
   exact⟨rfl,rfl,aqu _ _ (ajo rfl)⟩
theorem ZV(hD:uU X D)(l sb nb:Nat)(h:∀T,TK l sb nb 0 T->rC prog X Y D Stop none [] 99 cs [.code BG,.inLoop BG,.inBlock 0] T v):
  rC prog X Y D Stop none [] 99 cs [.code MQ] (#[.func (.yield l) #[] #[]]++#[.pointer (some ⟨sb,0,none⟩),.pointer (some ⟨nb,0,none⟩)]++Array.replicate 28 undef) v:=by
 rw[ajm];simp only[dR,dQ,dM,dP,dA,bT];refine qy hD (rF qV hD aj sfK λR hR τ d=>?_);unfold MQ;simp only[qM,uq,Tryz.f99,aQ];go_wp2;change rC _ _ _ _ _ _ _ _ _ _ _ v;exact Ac hD (Ll hD (h _ (anZ rfl)))
end
noncomputable def MN:Code:=Tryz.f31.body.getD .skip
noncomputable def wC5:Code:=qM (qA (qA (qA (qA (qA MN)))))
noncomputable def abA:Code:=qA (qA (qA (qA (qA (qA MN)))))
theorem sfW:∃fn,prog.funcs[31]?=some fn:=⟨_,func31⟩
def TWr(row lb:Nat)(T:aB):Prop:=∃f:Nat->ai,T=#[f 0,f 1,.pointer (some ⟨row,0,none⟩),f 3,f 4,f 5,.pointer (some ⟨lb,0,none⟩),f 7,f 8,f 9,f 10,f 11,f 12,f 13,f 14,f 15,f 16,f 17,f 18,f 19,f 20,f 21,f 22,f 23,f 24,f 25,f 26,f 27,f 28,f 29,f 30,f 31,f 32,f 33,f 34,f 35,f 36,f 37,f 38,f 39,f 40,f 41,f 42,f 43,f 44,f 45,f 46,f 47,f 48,f 49,f 50,f 51,f 52]
theorem adJ{row lb:Nat}{T:aB}(h:T=#[ae T 0,ae T 1,.pointer (some ⟨row,0,none⟩),ae T 3,ae T 4,ae T 5,.pointer (some ⟨lb,0,none⟩),ae T 7,ae T 8,ae T 9,ae T 10,ae T 11,ae T 12,ae T 13,ae T 14,ae T 15,ae T 16,ae T 17,ae T 18,ae T 19,ae T 20,ae T 21,ae T 22,ae T 23,ae T 24,ae T 25,ae T 26,ae T 27,ae T 28,ae T 29,ae T 30,ae T 31,ae T 32,ae T 33,ae T 34,ae T 35,ae T 36,ae T 37,ae T 38,ae T 39,ae T 40,ae T 41,ae T 42,ae T 43,ae T 44,ae T 45,ae T 46,ae T 47,ae T 48,ae T 49,ae T 50,ae T 51,ae T 52]):TWr row lb T:=⟨λi=>T.getD i undef,h⟩
theorem UX{w w':ah}(h:Below w.heap.size w w'):Kept w w':=⟨h.os,h.output,h.size,h.block⟩
theorem Kept.tape{w w':ah}(h:Kept w w')(τ:Nat->Question->Nat)(d:Nat):Kept w {w' with tape:=τ,drawn:=d}:=⟨h.os,h.output,h.size,h.block⟩
theorem Kept.below{a b c:ah}(h:Kept a b)(h':Below a.heap.size b c):Kept a c:=⟨h'.os.trans h.os,h'.output.trans h.output,bu h.size h'.size,λx hx=>(h'.block x hx).trans (h.block x hx)⟩
theorem Kept.cell{w w':ah}(h:Kept w w'){b o:Nat}{v:ai}(hc:w.cell? ⟨b,o,none⟩=some v):w'.cell? ⟨b,o,none⟩=some v:=by have hb:=rG hc;have e:=h.block b hb;simp only[World.cell?,e]at hc⊢;exact hc
theorem Kept.IU{w w':ah}(h:Kept w w'){b o:Nat}{l:ak}(hb:Dv w b o l):Dv w' b o l:=λj hj=>h.cell (hb j hj)
theorem Kept.tab{w w':ah}(h:Kept w w')(ht:Du w):Du w':=⟨bG ht.1 h.size,λi hi=>h.cell (ht.2 i hi)⟩
section
variable {X:Nat->Prop}{Y:Nat->aV}{D:Nat->ah->aH->Prop}{Stop:aG->ah->Prop}{v:ah}{cs:aP}
theorem ajp(hD:uU X D)(k n i c:Nat)(hk:k<=255)(hn:n<=255)(hi:i<=255)(hc:1<=c)(Wq:c<=65536)(vN vS:ai)(bc:aY)(len Ae:Nat)(hlen:len<=65536)(gm ajq ml:Nat)(OD:ak)(hml:OD.length=ml)(hm8:8<=ml)(hm:ml<=1000000)
  (agI:Dv v gm 0 OD) (_:gm<v.heap.size) (hT:Du v)
  (qJ:∀(T:aB)(lb g4 aaH:Nat)(V:ah),TWr v.heap.size lb T->v.heap.size<lb->lb<V.heap.size->Boxed V lb 34 (.slice (some ⟨g4,0,none⟩) (32+ml) aaH)->rO v.heap.size V (.slice (some ⟨g4,0,none⟩) (32+ml) aaH) (rJ ([67,65,73,82,78,49]++([UInt8.ofNat k,UInt8.ofNat n,UInt8.ofNat i,0]++(u_ 4 c++(u_ 4 (ml-8)++(u_ 4 len++[0,0])))))++OD)->
   ql V v.heap.size [.int .i64 (k:Int),.int .i64 (n:Int),.int .i64 (i:Int),.int .i64 (c:Int),vN,vS,.slice bc len Ae] 55->Kept v V->rC prog X Y D Stop none [] 31 cs [.code wC5,.code abA] T V):
  rC prog X Y D Stop none [] 31 cs [.code MN] (#[.agg #[.int .i64 (k:Int),.int .i64 (n:Int),.int .i64 (i:Int),.int .i64 (c:Int),vN,vS,.slice bc len Ae],.slice (some ⟨gm,0,none⟩) ml ajq]++Array.replicate 51 undef) v:=by
 obtain⟨i0,Ak,yz,xA,wH⟩:=dm BJ;obtain⟨f,ef⟩:∃f,(len+c-1)/c=f:=⟨_,rfl⟩;have hf:f<=len+c:=by rw[<-ef];exact bu (Nat.div_le_self _ _) ag
 have hq:((len:Int)+(c:Int)-1)/(c:Int)=(f:Int):=by rw[show(len:Int)+(c:Int)-1=((len+c-1:Nat):Int)by omega,<-Int.natCast_ediv,ef]
 clear ef;have asy:2<v.heap.size:=hT.1;unfold MN;simp only[Tryz.f31,aQ,dR,dQ,dM,dP,dA,bT];refine qy hD (rF qV hD aj sfW λR hR τ d=>?_);go_wp2;change rC _ _ _ _ _ _ _ _ _ _ _ (v.alloc (.cells #[.int .i64 (k:Int),.int .i64 (n:Int),.int .i64 (i:Int),.int .i64 (c:Int),vN,vS,.slice bc len Ae] 55));have Nq:=ql.made v [.int .i64 (k:Int),.int .i64 (n:Int),.int .i64 (i:Int),.int .i64 (c:Int),vN,vS,.slice bc len Ae] 55;have xB:Kept v (v.alloc (.cells #[.int .i64 (k:Int),.int .i64 (n:Int),.int .i64 (i:Int),.int .i64 (c:Int),vN,vS,.slice bc len Ae] 55)):=UX ((aT v.heap.size v).alloc (az _) _);have s0:(v.alloc (.cells #[.int .i64 (k:Int),.int .i64 (n:Int),.int .i64 (i:Int),.int .i64 (c:Int),vN,vS,.slice bc len Ae] 55)).heap.size=v.heap.size+1:=ax;replace Nq:ql (v.alloc (.cells #[.int .i64 (k:Int),.int .i64 (n:Int),.int .i64 (i:Int),.int .i64 (c:Int),vN,vS,.slice bc len Ae] 55)) v.heap.size [.int .i64 (k:Int),.int .i64 (n:Int),.int .i64 (i:Int),.int .i64 (c:Int),vN,vS,.slice bc len Ae] 55:=Nq;generalize v.alloc (.cells #[.int .i64 (k:Int),.int .i64 (n:Int),.int .i64 (i:Int),.int .i64 (c:Int),vN,vS,.slice bc len Ae] 55)=V0 at Nq xB s0⊢;refine qy hD (rF qV hD aj sfW λR hR τ d=>?_);have c3:=ql.cell (w:={V0 with tape:=τ,drawn:=d}) Nq (i:=3) rfl;have c6:=ql.cell (w:={V0 with tape:=τ,drawn:=d}) Nq (i:=6) rfl;go_wp2;change rC _ _ _ _ _ _ _ _ _ _ _ V0;clear c3 c6;refine qy hD (rF qV hD aj sfW λR hR τ d=>?_);have c6:=ql.cell (w:={V0 with tape:=τ,drawn:=d}) Nq (i:=6) rfl;have apf:ql {V0 with tape:=τ,drawn:=d} v.heap.size [.int .i64 (k:Int),.int .i64 (n:Int),.int .i64 (i:Int),.int .i64 (c:Int),vN,vS,.slice bc len Ae] 55:=Nq;have apg:Kept v {V0 with tape:=τ,drawn:=d}:=xB.tape τ d;have s0':({V0 with tape:=τ,drawn:=d}:ah).heap.size=v.heap.size+1:=s0;generalize({V0 with tape:=τ,drawn:=d}:ah)=V1 at c6 apf apg s0'⊢;obtain⟨w0,Y_,ho0,hg0⟩:=run_make_own (P:=prog) V1 v.heap.size 34 5 i0 (.int .u8 0) 1 underlying34 Ak yz xA .i64 .i64 (32+ml+len+f*8+4) ik dB ag;have aoi:((32+ml+len+f*8+4:Nat):Int)=32+(ml:Int)+(len:Int)+(f:Int)*8+4:=ag;rw[aoi]at Y_;rw[s0']at Y_ ho0;clear aoi;obtain⟨CP,eCP⟩:∃CP,32+ml+len+f*8+4=CP:=⟨_,rfl⟩;rw[eCP]at Y_ ho0;clear eCP;have xK:ql w0 v.heap.size [.int .i64 (k:Int),.int .i64 (n:Int),.int .i64 (i:Int),.int .i64 (c:Int),vN,vS,.slice bc len Ae] 55:=(hg0.block v.heap.size ag ax).trans apf;have hO0:rO v.heap.size w0 (.slice (some ⟨v.heap.size+1,0,none⟩) 0 CP) []:=rO.of ho0;have uu:Kept v w0:=apg.below ((aT v.heap.size V1).grown hg0 ag (λk hk=>by cases hk));have Ou:v.heap.size<w0.heap.size:=by have:=hg0.size;omega
 have hL1:=Boxed.new w0 34 (.slice (some ⟨v.heap.size+1,0,none⟩) 0 CP);have UJ:=hO0.alloc (.cells #[.slice (some ⟨v.heap.size+1,0,none⟩) 0 CP] 34);have tX:Kept v (w0.alloc (.cells #[.slice (some ⟨v.heap.size+1,0,none⟩) 0 CP] 34)):=uu.below ((aT v.heap.size w0).alloc ag _);have Hl:ql (w0.alloc (.cells #[.slice (some ⟨v.heap.size+1,0,none⟩) 0 CP] 34)) v.heap.size [.int .i64 (k:Int),.int .i64 (n:Int),.int .i64 (i:Int),.int .i64 (c:Int),vN,vS,.slice bc len Ae] 55:=xK.Bz ((zf.refl _).alloc _) aC;have zU:w0.heap.size<(w0.alloc (.cells #[.slice (some ⟨v.heap.size+1,0,none⟩) 0 CP] 34)).heap.size:=ax;clear hg0 ho0 hO0 xK apf uu apg;go_wp2;clear Y_ c6;generalize w0.alloc (.cells #[.slice (some ⟨v.heap.size+1,0,none⟩) 0 CP] 34)=V2 at hL1 UJ tX Hl zU⊢;generalize w0.heap.size=lb at*;refine qy hD (rF qV hD aj sfW λR hR τ d=>?_);replace hL1:Boxed {V2 with tape:=τ,drawn:=d} lb 34 _:=hL1;replace UJ:rO v.heap.size {V2 with tape:=τ,drawn:=d} _ _:=UJ;replace Hl:ql {V2 with tape:=τ,drawn:=d} v.heap.size _ 55:=Hl;replace tX:Kept v {V2 with tape:=τ,drawn:=d}:=tX.tape τ d;replace zU:lb<({V2 with tape:=τ,drawn:=d}:ah).heap.size:=zU;generalize({V2 with tape:=τ,drawn:=d}:ah)=V3 at*;have c0:=Hl.cell (i:=0) rfl;have c1:=Hl.cell (i:=1) rfl;have c2:=Hl.cell (i:=2) rfl;have c3:=Hl.cell (i:=3) rfl;have c4:=Hl.cell (i:=4) rfl;have c5:=Hl.cell (i:=5) rfl;have c6:=Hl.cell (i:=6) rfl;have cL:=hL1.cell;have hM8:(ml:Int)-8=((ml-8:Nat):Int):=ag;have K1:=aaW v.heap.size _ k n i c hk hn hi Wq vN vS bc len Ae ag ((ml:Int)-8) (ml-8) hM8 ag _ UJ tX.size (tX.tab hT) asy;clear hM8;obtain⟨H,eH⟩:∃H,rJ ([67,65,73,82,78,49]++([UInt8.ofNat k,UInt8.ofNat n,UInt8.ofNat i,0]++(u_ 4 c++(u_ 4 (ml-8)++(u_ 4 len++[0,0])))))=H:=⟨_,rfl⟩
 have hHl:Hid (H.length=32):=by show _=_;rw[<-eH,tu];simp[ru]
 rw[eH]at K1 qJ;clear eH
 go_wp2_with(first|(go_at_call 54;(with_reducible refine K1.mono ?_);clear K1;rintro r w2 ⟨v2,rfl,Ot,wI,P7⟩;obtain⟨g2,L9,rfl,_,_,_,_,_⟩:=A7 Ot (by have:=hHl.out;omega);have hL2:Boxed w2 lb 34 _:=P7.same _ _ hL1 rfl;have cL2:=hL2.cell;have fL2:=hL2.frozen))
 have hr3:=(Hl.Bz P7 aC).arj (lb:=lb) ag (.slice (some ⟨g2,0,none⟩) H.length L9);have hO3:=Ot.set hL2 (.slice (some ⟨g2,0,none⟩) H.length L9);have WU:=hL2.set (.slice (some ⟨g2,0,none⟩) H.length L9);have hb4:Kept v (w2.setCell ⟨lb,0,none⟩ (.slice (some ⟨g2,0,none⟩) H.length L9)):=(tX.below wI).below ((aT v.heap.size w2).setCell (p:=⟨lb,0,none⟩) avp _);have xI:lb<(w2.setCell ⟨lb,0,none⟩ (.slice (some ⟨g2,0,none⟩) H.length L9)).heap.size:=by rw[avL];exact bG zU wI.size
 clear c0 c1 c2 c3 c4 c5 c6 cL Hl hL1 UJ Ot wI tX P7 hL2 cL2 fL2 zU;generalize w2.setCell ⟨lb,0,none⟩ (.slice (some ⟨g2,0,none⟩) H.length L9)=V4 at*;refine qy hD (rF qV hD aj sfW λR hR τ d=>?_);replace WU:Boxed {V4 with tape:=τ,drawn:=d} lb 34 _:=WU;replace hO3:rO v.heap.size {V4 with tape:=τ,drawn:=d} _ _:=hO3;replace hr3:ql {V4 with tape:=τ,drawn:=d} v.heap.size _ 55:=hr3;replace hb4:Kept v {V4 with tape:=τ,drawn:=d}:=hb4.tape τ d;replace xI:lb<({V4 with tape:=τ,drawn:=d}:ah).heap.size:=xI;generalize({V4 with tape:=τ,drawn:=d}:ah)=V5 at*;have cL:=WU.cell;have hM5:=hb4.IU agI;obtain⟨M4,eM4⟩:∃M4,H++OD=M4:=⟨_,rfl⟩;have hM4:Hid (H++OD=M4):=eM4
 have ark:Hid (M4.length=32+ml):=by show _=_;rw[<-eM4,bK,hHl.out,hml]
 rw[eM4]at qJ;clear eM4
 go_wp2_with(first|(at_builtin;refine eP _ rfl _ _ 34 rfl v.heap.size 5 i0 (.int .u8 0) 1 1 underlying34 Ak yz xA wH rfl aC _ _ _ rfl hO3 ⟨gm,0,none⟩ ml ajq (sJ OD) rfl (by rw[sZ];omega) hM5.news (FO _) (by have:=hHl.out;unfold maxLen;omega) (by have:=hHl.out;omega) hb4.size ?_;intro v4 w4 ac0 alv _;have hO4:rO v.heap.size w4 v4 M4:=hM4.out▸rO.more ac0 rfl;have hk4:=hO3.keeps alv;have P_:=hb4.below (hO3.grown alv hb4.size);obtain⟨g4,aaH,e4,_,_,_,_,_⟩:=A7 hO4 (by have:=ark.out;omega);rw[ark.out]at e4;subst e4;have hL4:Boxed w4 lb 34 _:=hk4.same _ _ WU rfl;have cL4:=hL4.cell;have fL4:=hL4.frozen))
 have hr5:=(hr3.Bz hk4 aC).arj (lb:=lb) ag (.slice (some ⟨g4,0,none⟩) (32+ml) aaH);have hO5:=hO4.set hL4 (.slice (some ⟨g4,0,none⟩) (32+ml) aaH);have hL5:=hL4.set (.slice (some ⟨g4,0,none⟩) (32+ml) aaH);have hb6:Kept v (w4.setCell ⟨lb,0,none⟩ (.slice (some ⟨g4,0,none⟩) (32+ml) aaH)):=P_.below ((aT v.heap.size w4).setCell (p:=⟨lb,0,none⟩) avp _);refine qy hD (qJ _ lb g4 aaH _ (adJ rfl) ag (by rw[avL];exact bG xI hk4.size) hL5 hO5 hr5 hb6)
end
noncomputable def qw5:{x:Array Oper//x=uq (qM wC5)}:=⟨_,by(simp only[wC5,MN,qM,qA,uq,Tryz.f31,aQ];rfl)⟩
noncomputable def qw9:{x:Array Oper//x=uq (qM abA)}:=⟨_,by(simp only[abA,MN,qM,qA,uq,Tryz.f31,aQ];rfl)⟩
noncomputable def wO5:Array Oper:=qw5.1
noncomputable def wO9:Array Oper:=qw9.1
noncomputable def wAs:Code:=gAs (Qh (qA wC5))
noncomputable def wBd:Code:=gRd (Qh (qA wC5))
theorem aph:wC5=.seq (.region 5 wO5 false) (.block 0 (.rangeFunc (.tmp 43) #[44] wAs wBd)):=aj
theorem ajr:abA=.seq (.region 9 wO9 false) .ret:=aj
theorem ajs:wO5.size=5:=aj
def TWx(row lb:Nat)(x:ai)(T:aB):Prop:=∃f:Nat->ai,T=#[f 0,f 1,.pointer (some ⟨row,0,none⟩),f 3,f 4,f 5,.pointer (some ⟨lb,0,none⟩),f 7,f 8,f 9,f 10,f 11,f 12,f 13,f 14,f 15,f 16,f 17,f 18,f 19,f 20,f 21,f 22,f 23,f 24,f 25,f 26,f 27,f 28,f 29,f 30,f 31,f 32,f 33,f 34,f 35,f 36,f 37,f 38,f 39,f 40,f 41,f 42,f 43,x,f 45,f 46,f 47,f 48,f 49,f 50,f 51,f 52]
theorem api{row lb:Nat}{x:ai}{T:aB}(h:T=#[ae T 0,ae T 1,.pointer (some ⟨row,0,none⟩),ae T 3,ae T 4,ae T 5,.pointer (some ⟨lb,0,none⟩),ae T 7,ae T 8,ae T 9,ae T 10,ae T 11,ae T 12,ae T 13,ae T 14,ae T 15,ae T 16,ae T 17,ae T 18,ae T 19,ae T 20,ae T 21,ae T 22,ae T 23,ae T 24,ae T 25,ae T 26,ae T 27,ae T 28,ae T 29,ae T 30,ae T 31,ae T 32,ae T 33,ae T 34,ae T 35,ae T 36,ae T 37,ae T 38,ae T 39,ae T 40,ae T 41,ae T 42,ae T 43,x,ae T 45,ae T 46,ae T 47,ae T 48,ae T 49,ae T 50,ae T 51,ae T 52]):TWx row lb x T:=⟨λi=>T.getD i undef,h⟩
theorem amA{row lb:Nat}{T:aB}(h:TWr row lb T)(x:ai):TWx row lb x (T.setIfInBounds 44 x):=by obtain⟨f,rfl⟩:=h;exact api rfl
noncomputable def lpR(T:aB)(D:Nat)(s:LoopState):Loop:={state:=s,pending:=none,fn:=31,tmps:=T,params:=#[44],assign:=wAs,body:=wBd,defers:=D}
structure LW(v:ah)(lb sb nb D l:Nat)(ba:aY)(len cap c:Nat)(M:ak)(qH:ak)(T:aB)(st:LoopState)(j:Nat)(W:ah):Prop where
 lst:∃y,Boxed W lb 34 y/\rO v.heap.size W y (M++su c qH j)
 s:Boxed W sb 34 (.slice ba len cap)
 n:Boxed W nb 3 (.int .i64 (c:Int))
 lp:W.heap[l]?=some (.loop (lpR T D st))
 df:W.heap[D]?=some (.deferred (some []))
 kept:Kept v W
section
variable {v:ah}{lb sb nb D l:Nat}{ba:aY}{len cap c:Nat}{M qH:ak}{T:aB}{st st':LoopState}{j:Nat}{W:ah}
theorem LW.tape(h:LW v lb sb nb D l ba len cap c M qH T st j W)(τ:Nat->Question->Nat)(d:Nat):LW v lb sb nb D l ba len cap c M qH T st j {W with tape:=τ,drawn:=d}:=⟨h.lst,h.s,h.n,h.lp,h.df,h.kept.tape τ d⟩
theorem QJ{W:ah}{B r:Nat}{t:aF}{u:ai}{o:Obj}(h:Boxed W B t u)(hr:B≠r):Boxed (W.putObj r o) B t u:=(World.putObj_heap_other hr).trans h
theorem LW.put(h:LW v lb sb nb D l ba len cap c M qH T st j W)(hv:v.heap.size<=l)(h1:lb≠l)(h2:sb≠l)(h3:nb≠l)(h4:D≠l):LW v lb sb nb D l ba len cap c M qH T st' j (W.putObj l (.loop (lpR T D st'))):=by have qK:=(dh.1 h.lp).1;obtain⟨y,hy,hO⟩:=h.lst;exact⟨⟨y,QJ hy h1,ownsRow_putObj hO _ h.lp rfl⟩,QJ h.s h2,QJ h.n h3,World.putObj_heap_same qK,(World.putObj_heap_other h4).trans h.df,⟨h.kept.os,h.kept.output,by rw[World.putObj_size];exact h.kept.size,λb hb=>(World.putObj_heap_other ag).trans (h.kept.block b hb)⟩⟩
end
section
variable {X:Nat->Prop}{Y:Nat->aV}{D:Nat->ah->aH->Prop}{Stop:aG->ah->Prop}{v:ah}{cs:aP}{QB:aJ}
theorem ajt(hD:uU X D){lb sb nb Df l b off len cap c row:Nat}{M qH:ak}{T:aB}{ba:aY}(hTW:TWr row lb T)(hc:1<=c)(Wq:c<=65536)(hlen:len<=65536)(Md:qH.length=len)(hM:M.length<=2000000)(hT:Du v)(hby:Dv v b off qH)
  (Ns:v.heap.size<lb) (h1:lb<sb) (h2:sb<nb) (h3:nb<Df) (h4:Df<l) (hO:U0 X Y l) (j:Nat) (W:ah) (hj:j*c<len) (hI:LW v lb sb nb Df l ba len cap c M qH T .ready j W)
  (qJ:∀v',LW v lb sb nb Df l ba len cap c M qH T .ready (j+1) v'->∀w,qQ X Y w v'->r_ prog D Stop (G (QB.finish (.bool true)) cs) w):
  rC prog X Y D Stop (some l) [] 31 (QB::cs) [.code wAs,.beginRound,.code wBd] (T.setIfInBounds 44 (Vh b off len c j)) W:=by
 obtain⟨i0,Ak,yz,xA,wH⟩:=dm BJ;obtain⟨f,hTx⟩:=amA hTW (Vh b off len c j);rw[hTx];clear hTx;unfold wAs wC5 MN;simp only[gAs,Qh,qM,qA,Tryz.f31,aQ];refine rF qV hD aj sfW λR hR τ d=>?_
 go_wp2;change rC _ _ _ _ _ _ _ _ _ _ _ W;refine adB hD hI.lp rfl hO ?_;change rC _ _ _ _ _ _ _ _ _ _ _ (W.putObj l (.loop (lpR T Df .busy)));have hI1:LW v lb sb nb Df l ba len cap c M qH T .busy j (W.putObj l (.loop (lpR T Df .busy))):=hI.put ag ag ag ag ag;clear hI;generalize W.putObj l (.loop (lpR T Df .busy))=W1 at*;unfold wBd wC5 MN;simp only[gRd,Qh,qM,qA,Tryz.f31,aQ];refine rF qV hD aj sfW λR hR τ d=>?_
 replace hI1:=hI1.tape τ d;generalize({W1 with tape:=τ,drawn:=d}:ah)=W2 at*;obtain⟨⟨y,hv,UJ⟩,hsB,hnB,hlp,hdf,hK⟩:=hI1;have hjn:j<Hu c len:=(QF hc).2 hj
 have hLb:(M++su c qH j).length<=10000000000:=by
  have h5:(su c qH j).length<=j*(c+8):=by
   have:=QK [] c qH (len:=len) ((List.range j).attach.map λx=>⟨x.1,by
    have:=fH.1 x.2;exact(QF hc).1 ag⟩)
   rw[aju [] c qH _ j axp]at this;exact ayh
  have h6:j*1<=j*c:=nK _ hc;have h7:j*(c+8)<=65536*(65536+8):=kR ag ag;rw[bK];omega
 have auP:Du W2:=hK.tab hT;have asy:2<v.heap.size:=hT.1
 have hfB:Hid (yt c qH j=rJ (part qH (j*c) (min c (len-j*c)))):=by show _=_;unfold yt;rw[Md]
 have LS:Hid (M++su c qH (j+1)=(M++su c qH j)++yt c qH j):=by show _=_;rw[yg,fK]
 have hfl:(part qH (j*c) (min c (len-j*c))).length=min c (len-j*c):=qN ag;have hfv:Dv v b (off+j*c) (part qH (j*c) (min c (len-j*c))):=hby.part ag;have KZ:=hK.IU hfv;have WR:b<v.heap.size:=rG (hby 0 ag);unfold Vh;obtain⟨L,eL⟩:∃L,M++su c qH j=L:=⟨_,rfl⟩;obtain⟨p,ep⟩:∃p,j*c=p:=⟨_,rfl⟩;simp only[eL,ep]at UJ hLb LS hfB hfl KZ hfv hj⊢;obtain⟨m,em⟩:∃m,min c (len-p)=m:=⟨_,rfl⟩;have hm1:1<=m:=ag;have hm2:m<=65536:=ag;simp only[em]at hfB hfl KZ hfv⊢;obtain⟨fr,efr⟩:∃fr,part qH p m=fr:=⟨_,rfl⟩;simp only[efr]at hfB hfl KZ hfv;clear eL ep em efr;have hc0:=hv.cell
 have DR:∀(W3:ah)(y3:ai)(L3:ak),Hid (L3=L++yt c qH j)->Boxed W3 lb 34 y3->rO v.heap.size W3 y3 L3->Boxed W3 sb 34 (.slice ba len cap)->Boxed W3 nb 3 (.int .i64 (c:Int))->W3.heap[l]?=some (.loop (lpR T Df .busy))->W3.heap[Df]?=some (.deferred (some []))->Kept v W3->∀T',rC prog X Y D Stop (some l) [] 31 (QB::cs) [] T' W3:=λW3 y3 L3 e a1 a2 a3 a4 a5 a6 a7 T'=>
  aiT hD a5 hO (qJ _ (LW.put ⟨⟨y3,a1,by rw[LS.out,<-e.out];exact a2⟩,a3,a4,a5,a6,a7⟩ ag ag ag ag ag))
 clear qJ
 go_wp2_with(first
  |(at_builtin;refine eP _ rfl _ _ 34 rfl v.heap.size 5 i0 (.int .u8 0) 1 1 underlying34 Ak yz xA wH rfl aC _ _ _ rfl UJ ⟨b,off+p,none⟩ m m (sJ fr) rfl (by rw[sZ];omega) KZ.news (FO _) dB ag hK.size ?_;intro v1 w1 Hm Cf _;have Ot:rO v.heap.size w1 v1 (L++fr):=rO.more Hm rfl;have KP:=UJ.keeps Cf;have hK1:=hK.below (UJ.grown Cf hK.size);obtain⟨L1,eL1⟩:∃L1,L++fr=L1:=⟨_,rfl⟩;have EL1:Hid (L++fr=L1):=eL1;have auQ:L1.length<=20000000000:=axV;have atf:0<L1.length:=axV;rw[eL1]at Ot;clear eL1;obtain⟨g1,aeS,rfl,_,_,_,_,_⟩:=A7 Ot atf;have hv1:Boxed w1 lb 34 _:=KP.same _ _ hv rfl;have e1:=hv1.cell;have e2:=hv1.frozen
    have hO3:=Ot.set hv1 (.slice (some ⟨g1,0,none⟩) L1.length aeS);have hv2:=hv1.set (.slice (some ⟨g1,0,none⟩) L1.length aeS);have hK2:=hK1.below ((aT v.heap.size w1).setCell (p:=⟨lb,0,none⟩) avp (.slice (some ⟨g1,0,none⟩) L1.length aeS));have zU:=Boxed.other (KP.same _ _ hsB rfl:Boxed w1 sb 34 _) (B':=lb) ag (.slice (some ⟨g1,0,none⟩) L1.length aeS);have hn2:=Boxed.other (KP.same _ _ hnB rfl:Boxed w1 nb 3 _) (B':=lb) ag (.slice (some ⟨g1,0,none⟩) L1.length aeS);have atg:=(KeepsOthers.setCell w1 ⟨lb,0,none⟩ (.slice (some ⟨g1,0,none⟩) L1.length aeS)).same _ _ (KP.same _ _ hlp rfl) rfl;have ath:=(KeepsOthers.setCell w1 ⟨lb,0,none⟩ (.slice (some ⟨g1,0,none⟩) L1.length aeS)).same _ _ (KP.same _ _ hdf rfl) rfl;have hf2:=hK2.IU hfv;have K2:=Vd v.heap.size _ L1 ag _ hO3 hK2.size b (off+p) m fr ag hf2 (hK2.tab hT);rw[hfl]at K2;clear Hm Cf Ot KP KZ)
  |(go_at_call 46;(with_reducible refine K2.mono ?_);clear K2;rintro r w3 ⟨v3,rfl,hO4,wI,hk3⟩;obtain⟨L3,eL3⟩:∃L3,L1++u_ 8 (sumOf fr)=L3:=⟨_,rfl⟩;have EL3:Hid (L1++u_ 8 (sumOf fr)=L3):=eL3;have ati:0<L3.length:=(by rw[<-eL3,bK];omega);rw[eL3]at hO4;clear eL3;obtain⟨g3,aud,rfl,_,_,_,_,_⟩:=A7 hO4 ati;have hv3:Boxed w3 lb 34 _:=hk3.same _ _ hv2 rfl;have e3:=hv3.cell;have e4:=hv3.frozen))
 refine DR _ _ L3 ?_ (hv3.set _) (hO4.set hv3 _) (Boxed.other (hk3.same _ _ zU rfl:Boxed w3 sb 34 _) ag _) (Boxed.other (hk3.same _ _ hn2 rfl:Boxed w3 nb 3 _) ag _) ((KeepsOthers.setCell w3 _ _).same _ _ (hk3.same _ _ atg rfl) rfl) ((KeepsOthers.setCell w3 _ _).same _ _ (hk3.same _ _ ath rfl) rfl) ((hK2.below wI).below ((aT v.heap.size w3).setCell (p:=⟨lb,0,none⟩) avp _)) _;show L3=_;rw[hfB.out,<-EL3.out,<-EL1.out];unfold rJ;rw[fK]
end
section
variable {X:Nat->Prop}{Y:Nat->aV}{D:Nat->ah->aH->Prop}{Stop:aG->ah->Prop}{v:ah}{cs:aP}{QB:aJ}
theorem apj(T:aB)(Df:Nat)(st:LoopState)(x:ai):((lpR T Df st).params.zip #[x]).foldl (λtmps (t,a)=>tmps.setIfInBounds t a) (lpR T Df st).tmps=T.setIfInBounds 44 x:=by simp[lpR]
theorem apk(hD:uU X D){lb sb nb Df l len cap c row:Nat}{M qH:ak}{T:aB}{ba:aY}(hTW:TWr row lb T)(hc:1<=c)(Wq:c<=65536)(hlen:len<=65536)(hM:M.length<=2000000)
  (Ns:v.heap.size<lb) (h1:lb<sb) (h2:sb<nb) (h3:nb<Df) (h4:Df<l) (hO:U0 X Y l) (hOD:U0 X Y Df) (W:ah) (hI:LW v lb sb nb Df l ba len cap c M qH T .ready (Hu c len) W)
  (qJ:∀y v',rO v.heap.size v' y (M++su c qH (Hu c len)++[68,79,78,69])->Kept v v'->∀w,qQ X Y w v'->r_ prog D Stop (G (QB.finish y) cs) w):
  rC prog X Y D Stop none [{target:=.collected Df,args:=#[]}] 31 (QB::cs) [.endRangeFunc l,.inBlock 0,.code abA] T W:=by
 obtain⟨i0,Ak,yz,xA,wH⟩:=dm BJ;refine Xc hD hI.lp rfl rfl hO ?_;change rC _ _ _ _ _ _ _ _ _ _ _ (W.putObj l (.loop (lpR T Df .exhausted)));have hI1:=hI.put (st':=.exhausted) ag ag ag ag ag;clear hI;generalize W.putObj l (.loop (lpR T Df .exhausted))=W1 at*;obtain⟨f,rfl⟩:=hTW;rw[ajr];refine H9 hD (qy hD (rF qV hD aj sfW λR hR τ d=>?_));replace hI1:=hI1.tape τ d;generalize({W1 with tape:=τ,drawn:=d}:ah)=W2 at*;obtain⟨⟨y,hv,UJ⟩,_,_,_,hdf,hK⟩:=hI1
 have hLb:(M++su c qH (Hu c len)).length<=10000000000:=by
  have h5:(su c qH (Hu c len)).length<=Hu c len*(c+8):=by have:=QK [] c qH (len:=len) ((List.range (Hu c len)).attach.map λx=>⟨x.1,(QF hc).1 (fH.1 x.2)⟩);rw[aju [] c qH _ (Hu c len) axp]at this;exact ayh
  have h6:Hu c len<=len+1:=by unfold Hu;have:(len+c-1)/c<=(len*c+c)/c:=Nat.div_le_div_right (by have:len*1<=len*c:=nK _ hc;omega);rw[<-gQ,Nat.mul_div_cancel _ ag]at this;omega
  have h7:Hu c len*(c+8)<=65537*(65536+8):=kR ag ag;rw[bK];omega
 generalize M++su c qH (Hu c len)=L at*;have hc0:=hv.cell;simp only[wO9,qw9]
 go_wp2_with(first|(at_builtin;refine Lib.wpList_append_own_string _ rfl _ _ 34 9 rfl v.heap.size 5 i0 underlying34 underlying9 Ak yz xA wH _ _ _ rfl UJ ⟨#[68,79,78,69]⟩ rfl (by show _+4<=maxLen;unfold maxLen;omega) (by show _+4<=_;omega) hK.size ?_;intro v9 w9 arl ajv _;have hO9:rO v.heap.size w9 v9 (L++[68,79,78,69]):=rO.more arl rfl;have hk9:=UJ.keeps ajv;have hK9:=hK.below (UJ.grown ajv hK.size)))
 have arn:w9.heap[Df]?=some (.deferred (some [])):=hk9.same _ _ hdf rfl;refine aiU hD func31 arn hOD (λτ d=>lH (fn:=Tryz.f31) (t:=4) rfl _ _ _) ?_;exact qJ v9 _ (ownsRow_putObj hO9 _ arn rfl) ⟨hK9.os,hK9.output,by rw[World.putObj_size];exact hK9.size,λb hb=>(World.putObj_heap_other ag).trans (hK9.block b hb)⟩
theorem agq(hD:uU X D)(k n i c:Nat)(hk:k<=255)(hn:n<=255)(hi:i<=255)(hc:1<=c)(Wq:c<=65536)(vN vS:ai)(bc:aY)(len Ae:Nat)(qH:ak)(Md:qH.length=len)(hlen:len<=65536)(gm ajq ml:Nat)(OD:ak)(hml:OD.length=ml)(hm8:8<=ml)(hm:ml<=1000000)
  (xR:qU v (.slice bc len Ae) (sJ qH)) (agI:Dv v gm 0 OD) (hgm:gm<v.heap.size) (hT:Du v)
  (qJ:∀y v',rO v.heap.size v' y (rJ ([67,65,73,82,78,49]++([UInt8.ofNat k,UInt8.ofNat n,UInt8.ofNat i,0]++(u_ 4 c++(u_ 4 (ml-8)++(u_ 4 len++[0,0])))))++OD++su c qH (Hu c len)++[68,79,78,69])->Kept v v'->∀w,qQ X Y w v'->r_ prog D Stop (G (QB.finish y) cs) w):
  rC prog X Y D Stop none [] 31 (QB::cs) [.code MN] (#[.agg #[.int .i64 (k:Int),.int .i64 (n:Int),.int .i64 (i:Int),.int .i64 (c:Int),vN,vS,.slice bc len Ae],.slice (some ⟨gm,0,none⟩) ml ajq]++Array.replicate 51 undef) v:=by
 obtain⟨b,off,hba,hby⟩:∃b off,(0<len->bc=some ⟨b,off,none⟩)/\Dv v b off qH:=by
  obtain⟨ba,Wn,e,_,hh⟩:=xR;injection e with e1 e2 e3;subst e1;rcases fE len with h0|h0
  .exact⟨0,0,λh=>ag,λj hj=>ag⟩
  .obtain⟨b,off,e4,_⟩:=hh 0 _ (wJ ag);refine⟨b,off,λ_=>e4,λj hj=>?_⟩;obtain⟨b',ahO,e5,h5⟩:=hh j _ (wJ hj);rw[e4]at e5;injection e5 with e5;injection e5 with e6 e7;subst e6 e7;exact h5
 have aro:len<=Ae:=by obtain⟨ba,Wn,e,h,_⟩:=xR;injection e with e1 e2 e3;rw[sZ]at h;omega
 refine ajp hD k n i c hk hn hi hc Wq vN vS bc len Ae hlen gm ajq ml OD hml hm8 hm agI hgm hT λT lb g4 aaH V hTW Ns auR hL hO Uf hK=>?_
 obtain⟨M,eM⟩:∃M,rJ ([67,65,73,82,78,49]++([UInt8.ofNat k,UInt8.ofNat n,UInt8.ofNat i,0]++(u_ 4 c++(u_ 4 (ml-8)++(u_ 4 len++[0,0])))))++OD=M:=⟨_,rfl⟩
 have hMl:M.length<=2000000:=by rw[<-eM,bK,tu,hml];simp only[bK,ru,dJ,dY];omega
 rw[eM]at qJ hO;clear eM;rw[aph];refine qy hD (xH hD ?_);rw[ajs];simp only[List.range,List.range.loop];obtain⟨f,rfl⟩:=hTW;refine qC qV hD (.pointer (some ⟨v.heap.size,6,none⟩)) mG rfl aj (λz _=>a_) ?_;walk_nrm;refine qC qV hD (.slice bc len Ae) mG rfl aj (λz hz=>by have c6:=ql.cell (w:=z) (show z.heap[v.heap.size]?=_ by rw[hz];exact Uf) (i:=6) rfl;go_simp) ?_;walk_nrm;refine qC qV hD (.pointer (some ⟨v.heap.size,3,none⟩)) mG rfl aj (λz _=>a_) ?_;walk_nrm;refine qC qV hD (.int .i64 (c:Int)) mG rfl aj (λz hz=>by have c3:=ql.cell (w:=z) (show z.heap[v.heap.size]?=_ by rw[hz];exact Uf) (i:=3) rfl;go_simp) ?_;walk_nrm;refine wo hD mG rfl aI func55 aj (c:=ajl) aj (vs:=#[.slice bc len Ae,.int .i64 (c:Int)]) (n:=7) gI aj ?_;refine ape hD bc len Ae c hc ?_;rw[vM mG];show rC _ _ _ _ _ _ _ _ _ _ _ _;walk_nrm;have hL2:=(hL.alloc (.cells #[.slice bc len Ae] 34)).alloc (.cells #[.int .i64 (c:Int)] 3);have Ot:=(hO.alloc (.cells #[.slice bc len Ae] 34)).alloc (.cells #[.int .i64 (c:Int)] 3);have hS2:=(Boxed.new V 34 (.slice bc len Ae)).alloc (.cells #[.int .i64 (c:Int)] 3);have Ui:=Boxed.new (V.alloc (.cells #[.slice bc len Ae] 34)) 3 (.int .i64 (c:Int));have hK2:Kept v ((V.alloc (.cells #[.slice bc len Ae] 34)).alloc (.cells #[.int .i64 (c:Int)] 3)):=hK.below (((aT v.heap.size V).alloc hK.size _).alloc (by rw[nD];have:=hK.size;omega) _);have zU:((V.alloc (.cells #[.slice bc len Ae] 34)).alloc (.cells #[.int .i64 (c:Int)] 3)).heap.size=V.heap.size+2:=ax;rw[nD]at Ui;generalize(V.alloc (.cells #[.slice bc len Ae] 34)).alloc (.cells #[.int .i64 (c:Int)] 3)=V2 at*;refine tY hD (Ac hD (adz hD (gf:=99) (lb:=#[.pointer (some ⟨V.heap.size,0,none⟩),.pointer (some ⟨V.heap.size+1,0,none⟩)]) (λfr h=>by simp only[Frame.eval,h];rfl) func99 aj (c:=MQ) aj λhOD hOl=>?_));have en:Tryz.f99.ntmps-(1+(#[.pointer (some ⟨V.heap.size,0,none⟩),.pointer (some ⟨V.heap.size+1,0,none⟩)]:aB).size)=28:=by rw[ntmps99];rfl
 rw[en];refine ZV hD _ _ _ λT1 hT1=>?_
 have hI0:∀T',LW v lb V.heap.size (V.heap.size+1) V2.heap.size (V2.heap.size+1) bc len Ae c M qH T' .ready 0 ((V2.alloc (.deferred (some []))).alloc (.loop (lpR T' V2.heap.size .ready))):=λT'=>by
  refine⟨⟨_,(hL2.alloc _).alloc _,?_⟩,(hS2.alloc _).alloc _,(Ui.alloc _).alloc _,?_,?_,hK2.below (((aT v.heap.size V2).alloc hK2.size _).alloc (by rw[nD];have:=hK2.size;omega) _)⟩
  .have:=(Ot.alloc (.deferred (some []))).alloc (.loop (lpR T' V2.heap.size .ready));simpa[su]using this
  .have:=World.alloc_heap_new (V2.alloc (.deferred (some []))) (.loop (lpR T' V2.heap.size .ready));rwa[nD]at this
  .exact(dI _ _ _ ax).trans (World.alloc_heap_new V2 _)
 refine amz hD (V2.heap.size+1) V.heap.size (V.heap.size+1) b off len Ae c hc Wq ag aro bc hba (lpR _ V2.heap.size .ready) rfl hOl (LW v lb V.heap.size (V.heap.size+1) V2.heap.size (V2.heap.size+1) bc len Ae c M qH _ .ready) (λj W h=>⟨h.s,h.n,h.lp⟩) (λj W τ d h=>h.tape τ d) (λj W QB cs hj hI Ox=>?_) (λW hI=>?_) (Hu c len) 0 T1 _ ag (by rw[gX];exact hT1) (hI0 _)
 .rw[apj];exact ajt hD (adJ rfl) hc Wq hlen Md hMl hT hby Ns ag ag ag ag hOl j W hj hI Ox
 .rw[TF];exact apk hD (adJ rfl) hc Wq hlen hMl Ns ag ag ag ag hOl hOD W hI qJ

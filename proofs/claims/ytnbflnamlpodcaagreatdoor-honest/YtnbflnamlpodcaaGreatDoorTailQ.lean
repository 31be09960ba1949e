import Derived.Test.YtnbflnamlpodcaaGreatDoorCoJ
import Derived.Stop.Asserts
import Derived.Handy
import Derived.Test.YtnbflnamlpodcaaGreatDoorHqG
set_option maxHeartbeats 4000000
set_option maxRecDepth 100000
namespace Go.Proofs.Y
open Go.Proofs.Tryz
open Go.RowKit Go.Extern.Stop Go.Stop Go.Extern
def sV(w:ah):Nat->ai->Nat->Nat->Prop
 |0,v,e,p=>∃b,v=.iface 90 (.pointer (some ⟨b,0,none⟩))/\ql w b [.int .i64 (e:Int),.int .i64 (p:Int)] 94
 |d+1,v,e,p=>∃b s c,v=.iface 137 (.pointer (some ⟨b,0,none⟩))/\ql w b [.string s,c] 139/\sV w d c e p
def xh(w:ah)(a:Addr):Prop:=w.cell? ⟨0,0,none⟩=some (.iface 247 (.pointer (some a)))
theorem aeN(v:ai)(w:ah):(callFunc 101 #[.iface 247 v]).run prog w=.ok (.value (.iface 191 (.agg #[.pointer (some ⟨7,247,none⟩)]))) w:=aj
theorem Wl(w:ah):(callFunc 186 #[.agg #[.pointer (some ⟨7,247,none⟩)]]).run prog w=.ok (.value (.bool true)) w:=aj
theorem aqG:(prog.info? 247).map (·.comparable)=some true:=aj
theorem aqH:(prog.info? 267).map (·.size)=some 1:=aj
theorem aeO(v:ai)(xT:aF)(w:ah):(Instr.typeAssert (.iface 90 v) xT 213 true).run prog w=.ok (.tuple #[.iface 90 v,.bool true]) w:=run_typeAssert_hasB underlying213 aj v xT w
theorem Rq(v:ai)(xT:aF)(w:ah):(Instr.typeAssert (.iface 90 v) xT 198 true).run prog w=.ok (.tuple #[.nilIface,.bool false]) w:=run_typeAssert_lacksB underlying198 aj aj v xT w
theorem Oe(v:ai)(xT:aF)(w:ah):(Instr.typeAssert (.iface 90 v) xT 200 true).run prog w=.ok (.tuple #[.nilIface,.bool false]) w:=run_typeAssert_lacksB underlying200 aj aj v xT w
theorem aoo(v:ai)(xT:aF)(w:ah):(Instr.typeAssert (.iface 137 v) xT 213 true).run prog w=.ok (.tuple #[.nilIface,.bool false]) w:=run_typeAssert_lacksB underlying213 aj aj v xT w
theorem Fj(v:ai)(xT:aF)(w:ah):(Instr.typeAssert (.iface 137 v) xT 198 true).run prog w=.ok (.tuple #[.iface 137 v,.bool true]) w:=run_typeAssert_hasB underlying198 aj v xT w
theorem KO(b:Nat)(a:Addr)(e p:Nat)(w:ah)(h:ql w b [.int .i64 (e:Int),.int .i64 (p:Int)] 94)(hE:xh w a):
  Calls prog 178 #[.pointer (some ⟨b,0,none⟩),.iface 247 (.pointer (some a))] w λr w'=>r=.returned (.bool (decide (e=4)))/\w'=w:=by
 obtain⟨i,hi,auv⟩:=dL.1 aqG;obtain⟨j,hj,hjs⟩:=dL.1 aqH;have heq:=run_eql_iface_ptr_same (P:=prog) w a underlying59 underlying247 hi auv hj;have c0:=h.cell (i:=0) rfl;unfold xh at hE;by_cases q:e=4
 .subst q;go_enter func178,ntmps178;exact ayj
 .have q':((e:Int)==4)=false:=aS;have HQ:Hid (decide (e=4)=false):=fD q;clear q;go_enter func178,ntmps178;go_wp2;go_ret;exact⟨Eu (by rw[HQ.out]),rfl⟩
theorem BN(b:Nat)(s:ByteArray)(c:ai)(w:ah)(h:ql w b [.string s,c] 139):
  Calls prog 180 #[.pointer (some ⟨b,0,none⟩)] w λr w'=>r=.returned c/\w'=w:=by
 have c1:=h.cell (i:=1) rfl;go_enter func180,ntmps180;exact ayj
theorem is0(b:Nat)(a:Addr)(e p:Nat)(w:ah)(h:ql w b [.int .i64 (e:Int),.int .i64 (p:Int)] 94)(hE:xh w a):
  Calls prog 102 #[.iface 90 (.pointer (some ⟨b,0,none⟩)),.iface 247 (.pointer (some a)),.bool true] w λr w'=>r=.returned (.bool (decide (e=4)))/\w'=w:=by
 have K:=KO b a e p w h hE;have i1:=aeO;have i2:=Rq;have i3:=Oe;have hty:=run_eql_iface_types (P:=prog) 90 247 (.pointer (some ⟨b,0,none⟩)) (.pointer (some a)) underlying59 aC w;cases q:decide (e=4)
 all_goals rw[q]at K
 all_goals
  go_enter func102,ntmps102;go_wp2;refine lq 1 ?_;rw[iC]
  go_wp2_with(first|(go_at_call 178;refine K.mono ?_;rintro r w' ⟨rfl,uf⟩;obtain rfl:=uf.symm))
  exact ayo
theorem is1(b0 b:Nat)(s0:ByteArray)(a:Addr)(e p:Nat)(w:ah)(h0:ql w b0 [.string s0,.iface 90 (.pointer (some ⟨b,0,none⟩))] 139)(h:ql w b [.int .i64 (e:Int),.int .i64 (p:Int)] 94)(hE:xh w a):
  Calls prog 102 #[.iface 137 (.pointer (some ⟨b0,0,none⟩)),.iface 247 (.pointer (some a)),.bool true] w λr w'=>r=.returned (.bool (decide (e=4)))/\w'=w:=by
 have K:=KO b a e p w h hE;have K0:=BN b0 s0 _ w h0;have i1:=aeO;have i2:=Rq;have i3:=Oe;have i4:=aoo;have i5:=Fj;have hty:=run_eql_iface_types (P:=prog) 90 247 (.pointer (some ⟨b,0,none⟩)) (.pointer (some a)) underlying59 aC w;have atX:=run_eql_iface_types (P:=prog) 137 247 (.pointer (some ⟨b0,0,none⟩)) (.pointer (some a)) underlying59 aC w;cases q:decide (e=4)
 all_goals rw[q]at K
 all_goals
  go_enter func102,ntmps102;go_wp2;refine lq 2 ?_;rw[iC]
  go_wp2_with(first|(go_at_call 178;refine K.mono ?_;rintro r w' ⟨rfl,uf⟩;obtain rfl:=uf.symm)|(go_at_call 180;with_reducible refine K0.mono ?_;rintro r w' ⟨rfl,uf⟩;obtain rfl:=uf.symm))
  rw[iC]
  go_wp2_with(first|(go_at_call 178;refine K.mono ?_;rintro r w' ⟨rfl,uf⟩;obtain rfl:=uf.symm)|(go_at_call 180;with_reducible refine K0.mono ?_;rintro r w' ⟨rfl,uf⟩;obtain rfl:=uf.symm))
  exact ayo
theorem is2(b0 b1 b:Nat)(s0 s1:ByteArray)(a:Addr)(e p:Nat)(w:ah)(h0:ql w b0 [.string s0,.iface 137 (.pointer (some ⟨b1,0,none⟩))] 139)(h1:ql w b1 [.string s1,.iface 90 (.pointer (some ⟨b,0,none⟩))] 139)(h:ql w b [.int .i64 (e:Int),.int .i64 (p:Int)] 94)(hE:xh w a):
  Calls prog 102 #[.iface 137 (.pointer (some ⟨b0,0,none⟩)),.iface 247 (.pointer (some a)),.bool true] w λr w'=>r=.returned (.bool (decide (e=4)))/\w'=w:=by
 have K:=KO b a e p w h hE;have K0:=BN b0 s0 _ w h0;have K1:=BN b1 s1 _ w h1;have i1:=aeO;have i2:=Rq;have i3:=Oe;have i4:=aoo;have i5:=Fj;have hty:=run_eql_iface_types (P:=prog) 90 247 (.pointer (some ⟨b,0,none⟩)) (.pointer (some a)) underlying59 aC w;have atX:=run_eql_iface_types (P:=prog) 137 247 (.pointer (some ⟨b0,0,none⟩)) (.pointer (some a)) underlying59 aC w;have au6:=run_eql_iface_types (P:=prog) 137 247 (.pointer (some ⟨b1,0,none⟩)) (.pointer (some a)) underlying59 aC w;cases q:decide (e=4)
 all_goals rw[q]at K
 all_goals
  go_enter func102,ntmps102;go_wp2;refine lq 3 ?_;rw[iC]
  go_wp2_with(first|(go_at_call 178;refine K.mono ?_;rintro r w' ⟨rfl,uf⟩;obtain rfl:=uf.symm)|(go_at_call 180;with_reducible refine K0.mono ?_;rintro r w' ⟨rfl,uf⟩;obtain rfl:=uf.symm)|(go_at_call 180;with_reducible refine K1.mono ?_;rintro r w' ⟨rfl,uf⟩;obtain rfl:=uf.symm))
  rw[iC]
  go_wp2_with(first|(go_at_call 178;refine K.mono ?_;rintro r w' ⟨rfl,uf⟩;obtain rfl:=uf.symm)|(go_at_call 180;with_reducible refine K0.mono ?_;rintro r w' ⟨rfl,uf⟩;obtain rfl:=uf.symm)|(go_at_call 180;with_reducible refine K1.mono ?_;rintro r w' ⟨rfl,uf⟩;obtain rfl:=uf.symm))
  rw[iC]
  go_wp2_with(first|(go_at_call 178;refine K.mono ?_;rintro r w' ⟨rfl,uf⟩;obtain rfl:=uf.symm)|(go_at_call 180;with_reducible refine K0.mono ?_;rintro r w' ⟨rfl,uf⟩;obtain rfl:=uf.symm)|(go_at_call 180;with_reducible refine K1.mono ?_;rintro r w' ⟨rfl,uf⟩;obtain rfl:=uf.symm))
  exact ayo
theorem alJ(d:Nat)(hd:d<=2)(v:ai)(a:Addr)(e p:Nat)(w:ah)(h:sV w d v e p)(hE:xh w a):
  Calls prog 102 #[v,.iface 247 (.pointer (some a)),.bool true] w λr w'=>r=.returned (.bool (decide (e=4)))/\w'=w:=by
 match d,hd,h with
 |0,_,⟨b,e1,h1⟩=>subst e1;exact is0 b a e p w h1 hE
 |1,_,⟨b0,s0,c,e1,h1,b,e2,h2⟩=>subst e1 e2;exact is1 b0 b s0 a e p w h1 h2 hE
 |2,_,⟨b0,s0,c,e1,h1,b1,s1,c1,e2,h2,b,e3,h3⟩=>subst e1 e2 e3;exact is2 b0 b1 b s0 s1 a e p w h1 h2 h3 hE
theorem sV.iface{w:ah}{d:Nat}{v:ai}{e p:Nat}(h:sV w d v e p):∃t x,v=.iface t x:=by
 match d,h with
 |0,⟨b,e1,_⟩=>exact⟨_,_,e1⟩
 |d+1,⟨b,s,c,e1,_,_⟩=>exact⟨_,_,e1⟩
theorem apS(a:Addr)(w:ah):
  Calls prog 58 #[.nilIface,.iface 247 (.pointer (some a))] w λr w'=>r=.returned (.bool false)/\w'=w:=by
 have hn:=run_eql_iface_nil_left (P:=prog) w 247 (.pointer (some a)) underlying59;go_enter func58,ntmps58;exact ayj
theorem Pv(d:Nat)(hd:d<=2)(v:ai)(a:Addr)(e p:Nat)(w:ah)(h:sV w d v e p)(hE:xh w a):
  Calls prog 58 #[v,.iface 247 (.pointer (some a))] w λr w'=>r=.returned (.bool (decide (e=4)))/\w'=w:=by
 have K:=alJ d hd v a e p w h hE;obtain⟨t,x,rfl⟩:=h.iface;have tT:=aeN;have cT:=Wl;clear h hE;cases q:decide (e=4)
 all_goals rw[q]at K
 all_goals
  go_enter func58,ntmps58
  go_wp2_with(first|(go_at_call 102;refine K.mono ?_;rintro r w' ⟨rfl,uf⟩;obtain rfl:=uf.symm))
  exact ayo
end Go.Proofs.Y
namespace Go.Proofs.Y
open Go.Proofs.Tryz
open Go.RowKit Go.Deep
theorem sV.under{w w':ah}(hb:Below w.heap.size w w'):∀{d:Nat}{v:ai}{e p:Nat},sV w d v e p->sV w' d v e p
 |0,_,_,_,⟨b,e1,h1⟩=>⟨b,e1,h1.later (S:=λ_=>False) (.qF hb) h1.lt id⟩
 |_+1,_,_,_,⟨b,s,c,e1,h1,h2⟩=>⟨b,s,c,e1,h1.later (S:=λ_=>False) (.qF hb) h1.lt id,sV.under hb h2⟩
def yx(w:ah)(d e p:Nat)(r:Ending)(w':ah):Prop:=∃v,r=.returned v/\sV w' d v e p/\Below w.heap.size w w'
theorem A8(E P:Int)(e p:Nat)(hE:E=e)(hP:P=p)(w:ah):
  Calls prog 64 #[.int .i64 E,.int .i64 P] w λr w'=>yx w 0 e p r w':=by
 subst hE hP;have hr:=ql.made w [.int .i64 (e:Int),.int .i64 (p:Int)] 94;have hB:=(aT w.heap.size w).alloc (az _) (.cells #[.int .i64 (e:Int),.int .i64 (p:Int)] 94);go_enter func64,ntmps64;go_wp2;go_ret;exact⟨_,rfl,⟨_,rfl,hr⟩,hB⟩
theorem Iz(s:ByteArray)(w:ah):
  Calls prog 37 #[.string s,.nilIface] w λr w'=>r=.returned .nilIface/\w'=w:=by
 go_enter func37,ntmps37;exact ayj
theorem yU(s:ByteArray)(d:Nat)(v:ai)(e p:Nat)(w:ah)(h:sV w d v e p):
  Calls prog 37 #[.string s,v] w λr w'=>yx w (d+1) e p r w':=by
 have hr:=ql.made w [.string s,v] 139;have hB:=(aT w.heap.size w).alloc (az _) (.cells #[.string s,v] 139);have hc:=h.under hB;obtain⟨t,x,rfl⟩:=h.iface;clear h;go_enter func37,ntmps37;go_wp2;go_ret;exact⟨_,rfl,⟨_,_,_,rfl,hr,hc⟩,hB⟩
theorem le_succ(l:ak):∀(n a:Nat),le l a (n+1)=le l a n+256^n*tZ l (a+n)
 |0,a=>by simp[le]
 |n+1,a=>by
  have h:=le_succ l n (a+1);show tZ l a+256*le l (a+1) (n+1)=(tZ l a+256*le l (a+1) n)+_;rw[h,show a+1+n=a+(n+1)by omega,jd,Nat.mul_add];have:256*(256^n*tZ l (a+(n+1)))=256^n*256*tZ l (a+(n+1)):=by rw[<-Nat.mul_assoc,gu 256]
  omega
theorem ahL{a b:Nat}(ha:a<2^64)(hb:b<2^64):bits .or .u64 (a:Int) (b:Int)=((a|||b:Nat):Int):=by show IntKind.u64.wrap ((BitVec.ofInt 64 (a:Int)|||BitVec.ofInt 64 (b:Int)).toNat:Int)=_;rw[BitVec.toNat_or,Cb a ha,Cb b hb,F5 _ (Nat.or_lt_two_pow ha hb)]
theorem alf{x y c:Nat}(hc:c<8)(hx:x<256^c)(hy:y<256):bits .or .u64 (x:Int) (IntKind.u64.wrap ((y:Int)*2^(8*c)))=((x+256^c*y:Nat):Int)/\x+256^c*y<256^(c+1):=by
 have e:(256:Nat)^c=2^(8*c):=by rw[Nat.pow_mul]
 have h56:2^(8*c)<=2^56:=kN ag ag;have hp:y*2^(8*c)<=255*2^56:=kR ag h56;have ei:(y:Int)*2^(8*c)=((y*2^(8*c):Nat):Int):=ax;rw[e]at hx⊢
 have hsum:x+2^(8*c)*y<256^(c+1):=by
  have h1:2^(8*c)*y<=2^(8*c)*255:=nK _ ag;have h2:256^(c+1)=2^(8*c)*256:=by rw[jd,e]
  omega
 refine⟨?_,hsum⟩;rw[ei,F5 _ ag,ahL ag ag];have h3:=Nat.shiftLeft_add_eq_or_of_lt hx y;rw[Nat.shiftLeft_eq]at h3;rw[Nat.or_comm,<-h3,gu y,jy]
theorem xy(bb bo n cap:Nat)(l:ak)(hn:l.length=n)(hn8:n<=8)(w:ah)(hb:Dv w bb bo l):
  Calls prog 141 #[.slice (some ⟨bb,bo,none⟩) n cap] w λr w'=>r=.returned (.int .u64 (le l 0 n:Nat))/\w'=w:=by
 go_enter func141,ntmps141;go_wp2
 go_loop [3,8] (λvn vi=>∃c x:Nat,c<=n/\vi=.int .i64 (c:Int)/\vn=.int .u64 (x:Int)/\x<256^c/\Hid (x=le l 0 c)) (λ_ i=>n-(intOf i).toNat)
 case atStart=>exact⟨0,0,ag,rfl,rfl,ax,rfl⟩
 case round=>
  obtain⟨c,x,hc,rfl,rfl,hx,H⟩:=hrel;by_cases qK:c<n
  .have hcell:=hb c ag;have hy:=EG l c;have H2:Hid _:=le_succ l c 0;rw[bM]at H2;obtain⟨y,ey⟩:∃y,tZ l c=y:=⟨_,rfl⟩;rw[ey]at hcell hy H2;obtain⟨h3,h4⟩:=alf (show c<8 by omega) hx hy;have H4:Hid (x+256^c*y<256^(c+1)):=h4
   have H5:Hid (x+256^c*y=le l 0 (c+1)):=by show _=_;rw[H2.out,H.out]
   clear ey hb h4 hx H H2;obtain⟨z,ez⟩:∃z,x+256^c*y=z:=⟨_,rfl⟩;rw[ez]at h3 H4 H5;clear ez;go_wp2
   go_round
   case rel=>exact⟨c+1,z,ag,bU,rfl,H4.out,H5⟩
   case measure=>simp[intOf];omega
  .obtain rfl:c=n:=ag;clear hb hx;go_wp2;go_ret;exact⟨afX (by rw[H.out]),rfl⟩
structure Rd where
 k:Nat
 n:Nat
 i:Nat
 c:Nat
 vN:ai
 vS:ai
 vC:ai
 m:Nat
 ln:Nat
 tt:Nat
 nx:Nat
 pl:Nat
 vT:ai
 vF:ai
def Rd.cells(r:Rd):aK:=[.int .i64 (r.k:Int),.int .i64 (r.n:Int),.int .i64 (r.i:Int),.int .i64 (r.c:Int),r.vN,r.vS,r.vC,.int .i64 (r.m:Int),.int .i64 (r.ln:Int),.int .i64 (r.tt:Int),.int .i64 (r.nx:Int),.int .i64 (r.pl:Int),r.vT,r.vF]
def yw(w:ah)(rb:Nat)(r:Rd):Prop:=ql w rb r.cells 122
def yT(nx c m ln cl:Nat):Nat:=if nx=0 then 32 else if nx=1 then m+8 else if nx=2 then min c (ln-cl)+8 else 4
theorem WJ(rb:Nat)(r:Rd)(bc:aY)(cl cc:Nat)(hC:r.vC=.slice bc cl cc)(hm:r.m<=1000000)(hc:r.c<=1000000)(hl:r.ln<=1000000)(Md:cl<=r.ln)(Ox:r.nx<=3)(w:ah)(h:yw w rb r):
  Calls prog 129 #[.pointer (some ⟨rb,0,none⟩)] w λq w'=>q=.returned (.int .i64 (yT r.nx r.c r.m r.ln cl:Nat))/\∃j,w'=w.drewN j:=by
 obtain⟨k,n,i,c,vN,vS,vC,m,ln,tt,nx,pl,vT,vF⟩:=r;simp only at hC hm hc hl Md Ox⊢;subst hC;unfold yw Rd.cells at h;have c3:=h.cell (i:=3) rfl;have c6:=h.cell (i:=6) rfl;have c7:=h.cell (i:=7) rfl;have c8:=h.cell (i:=8) rfl;have XY:=h.cell (i:=10) rfl;simp only at c3 c6 c7 c8 XY;clear h;have hc4:nx=0\/nx=1\/nx=2\/nx=3:=ag;rcases hc4 with rfl|rfl|rfl|rfl
 .go_enter func129,ntmps129;exact ayY
 .go_enter func129,ntmps129;exact ayY
 .have HS:Hid (yT 2 c m ln cl=min c (ln-cl)+8):=rfl;rcases bJ (ln-cl) c with q|q
  .have q':(ln:Int)-(cl:Int)<(c:Int):=ag;have HM:Hid ((min c (ln-cl)+8:Nat)=ln-cl+8):=mP;go_enter func129,ntmps129
   go_wp2_with fail
   go_big_quiet (fail)
   go_wp2;go_ret;exact⟨FV axQ,_,rfl⟩
  .have q':(c:Int)<=(ln:Int)-(cl:Int):=ag;have HM:Hid ((min c (ln-cl)+8:Nat)=c+8):=mP;go_enter func129,ntmps129
   go_wp2_with fail
   go_big_quiet (fail)
   go_wp2;go_ret;exact⟨FV axQ,_,rfl⟩
 .go_enter func129,ntmps129;exact ayY
theorem ql.drewN{w:ah}{b:Nat}{cs:aK}{t:aF}(h:ql w b cs t)(j:Nat):ql (w.drewN j) b cs t:=h
section
variable (rb:Nat)(r:Rd)(bc:aY)(cl cc:Nat)(hC:r.vC=.slice bc cl cc)(hm:r.m<=1000000)(hc:r.c<=1000000)(hl:r.ln<=1000000)(Md:cl<=r.ln)(Ox:r.nx<=3)(bt:aY)(tl ct:Nat)(hT:r.vT=.slice bt tl ct)(Y9:tl<=1000000000)(vY:r.pl<=1000000000000)(w:ah)(h:yw w rb r)
include hC hm hc hl Md Ox hT h in
theorem YW(hs:yT r.nx r.c r.m r.ln cl<=tl):
  Calls prog 140 #[.pointer (some ⟨rb,0,none⟩)] w λq w'=>q=.returned .nilIface/\∃j,w'=w.drewN j:=by
 have K:∀j,Calls prog 129 #[.pointer (some ⟨rb,0,none⟩)] (w.drewN j) λq w'=>q=.returned (.int .i64 (yT r.nx r.c r.m r.ln cl:Nat))/\∃n,w'=w.drewN n:=λj=>
  (WJ rb r bc cl cc hC hm hc hl Md Ox (w.drewN j) (ql.drewN h j)).mono λq w' x=>⟨x.1,by
   obtain⟨i,hi⟩:=x.2;exact⟨j+i,awJ⟩⟩
 obtain⟨z,ez⟩:∃z,yT r.nx r.c r.m r.ln cl=z:=⟨_,rfl⟩;simp only[ez]at K hs;have c12:w.cell? ⟨rb,12,none⟩=some (.slice bt tl ct):=awT;have xU:decide ((tl:Int)<(z:Int))=false:=aS;have zU:(z:Int)<=(tl:Int):=ag;clear ez h hC hT;go_enter func140,ntmps140
 go_wp2_with fail
 go_big_quiet (first|(go_at_call 129;exact(K _).mono (λ_ _ h=>⟨h.1,h.2⟩)))
 go_wp2;go_ret;exact⟨rfl,_,rfl⟩
include hC hm hc hl Md Ox hT Y9 vY h in
theorem acE(hs:tl<yT r.nx r.c r.m r.ln cl):
  Calls prog 140 #[.pointer (some ⟨rb,0,none⟩)] w λq w'=>yx w 0 4 (r.pl+tl) q w':=by
 have K:∀j,Calls prog 129 #[.pointer (some ⟨rb,0,none⟩)] (w.drewN j) λq w'=>q=.returned (.int .i64 (yT r.nx r.c r.m r.ln cl:Nat))/\∃n,w'=w.drewN n:=λj=>
  (WJ rb r bc cl cc hC hm hc hl Md Ox (w.drewN j) (ql.drewN h j)).mono λq w' x=>⟨x.1,by
   obtain⟨i,hi⟩:=x.2;exact⟨j+i,awJ⟩⟩
 obtain⟨z,ez⟩:∃z,yT r.nx r.c r.m r.ln cl=z:=⟨_,rfl⟩;simp only[ez]at K hs;have c12:w.cell? ⟨rb,12,none⟩=some (.slice bt tl ct):=awT;have Uz:w.cell? ⟨rb,11,none⟩=some (.int .i64 (r.pl:Int)):=ql.cell h rfl;have xU:decide ((tl:Int)<(z:Int))=true:=aS;have zU:(tl:Int)<(z:Int):=ag;obtain⟨pl,XJ⟩:∃pl,r.pl=pl:=⟨_,rfl⟩;rw[XJ]at Uz vY⊢;clear ez h hC hT XJ;go_enter func140,ntmps140
 go_wp2_with fail
 go_big_quiet (first|(go_at_call 129;exact(K _).mono (λ_ _ h=>⟨h.1,h.2⟩)))
 go_wp2_with fail
 have Zc:IntKind.i64.wrap ((pl:Int)+(tl:Int))=(pl:Int)+(tl:Int):=fM _ ag;refine EO 10 mixed aj ?_;simp only[pg,lT,pI,l9]
 repeat still_step
 refine wpStill_nil ?_
 go_wp2_with(first|(go_at_call 64;refine(A8 _ _ 4 (pl+tl) aI ax _).mono ?_;rintro q w2 ⟨v,rfl,h1,h2⟩))
 go_ret;refine⟨_,rfl,h1,?_⟩;exact⟨h2.os,h2.tape,h2.output,h2.size,h2.block⟩
end
def Dj(l ws:ak):Option Nat:=(List.range (min ws.length l.length)).find? λi=>decide (tZ l i≠(ws.getD i 0).toNat)
def IB(w:ah)(l ws:ak)(pl:Nat)(q:Ending)(w':ah):Prop:=
 match Dj l ws with
 |none=>q=.returned .nilIface/\∃j,w'=w.drewN j
 |some i=>yx w 0 5 (pl+i) q w'
theorem ahM{l ws:ak}{c:Nat}(hc:c<min ws.length l.length)(h:∀i,i<c->tZ l i=(ws.getD i 0).toNat)(hne:tZ l c≠(ws.getD c 0).toNat):Dj l ws=some c:=by unfold Dj;rw[pF];exact⟨by simpa using hne,by simpa using hc,λj hj=>by simpa using h j hj⟩
theorem ahN{l ws:ak}(h:∀i,i<min ws.length l.length->tZ l i=(ws.getD i 0).toNat):Dj l ws=none:=by unfold Dj;rw[pG];intro i hi;have:=h i nZ;exact ayh
theorem yx.He{w w':ah}{j d e p:Nat}{q:Ending}(h:yx (w.drewN j) d e p q w'):yx w d e p q w':=by obtain⟨v,h1,h2,h3⟩:=h;exact⟨v,h1,h2,⟨h3.os,h3.tape,h3.output,h3.size,h3.block⟩⟩
theorem VY(rb:Nat)(r:Rd)(l ws:ak)(hw:ws.length<=100)(hl:l.length<=1000000000)(vY:r.pl<=1000000000000)(w:ah)(h:yw w rb r)(hT:qU w r.vT (sJ l)):
  Calls prog 134 #[.pointer (some ⟨rb,0,none⟩),.string ⟨ws.toArray⟩] w λq w'=>IB w l ws r.pl q w':=by
 obtain⟨bt,ct,ev,BD,hc⟩:=hT;rw[sZ]at ev BD;have c12:w.cell? ⟨rb,12,none⟩=some (.slice bt l.length ct):=by rw[<-ev];exact ql.cell h rfl
 have Uz:w.cell? ⟨rb,11,none⟩=some (.int .i64 (r.pl:Int)):=ql.cell h rfl;obtain⟨pl,XJ⟩:∃pl,r.pl=pl:=⟨_,rfl⟩;rw[XJ]at Uz vY⊢;have hsz:=Uk ws;clear h ev XJ;have idx:=ahJ ws;rcases bJ l.length ws.length with q0|q0
 all_goals
  first|(have EM:Hid (min ws.length l.length=l.length):=(show _=_ by omega))|(have EM:Hid (min ws.length l.length=ws.length):=(show _=_ by omega))
  go_enter func134,ntmps134;go_wp2
  go_loopw [14] (λvi wr=>∃c j:Nat,c<=min ws.length l.length/\vi=.int .i64 (c:Int)/\wr=w.drewN j/\Hid (∀i,i<c->tZ l i=(ws.getD i 0).toNat)) (λi _=>min ws.length l.length-(intOf i).toNat)
  case atStart=>exact⟨0,0,ag,rfl,rfl,λi hi=>absurd hi ag⟩
  case round=>
   obtain⟨c,j,sU,rfl,rfl,H⟩:=hrel;by_cases qK:c<min ws.length l.length
   .obtain⟨b,off,rfl,hcell⟩:=hc c _ (wJ ag);have hy:=EG l c;have hz:(ws.getD c 0).toNat<256:=nG _;have hix:=idx c ag;obtain⟨y,ey⟩:∃y,tZ l c=y:=⟨_,rfl⟩;obtain⟨z,ez⟩:∃z,(ws.getD c 0).toNat=z:=⟨_,rfl⟩;rw[ey]at hcell hy;rw[ez]at hix hz;have EY:Hid (tZ l c=y):=ey;have EZ:Hid ((ws.getD c 0).toNat=z):=ez;clear ey ez hc idx;by_cases q:y=z
    .subst q
     go_wp2_with fail
     go_big_quiet (fail)
     go_wp2
     go_roundw
     case rel=>
      refine⟨c+1,_,ag,bU,rfl,λi hi=>?_⟩;rcases bJ i c with h1|h1
      .exact H.out i h1
      .obtain rfl:i=c:=ag;rw[EY.out,EZ.out]
     case measure=>simp[intOf];omega
    .have q':((y:Int)==(z:Int))=false:=aS;have q2:((y:Int) != (z:Int))=true:=aS;have HB:Hid (Dj l ws=some c):=ahM (by rw[EM.out];omega) H.out (by rw[EY.out,EZ.out];exact q);have Zc:IntKind.i64.wrap ((pl:Int)+(c:Int))=(pl:Int)+(c:Int):=fM _ ag
     go_wp2_with fail
     go_big_quiet (fail)
     go_wp2_with(first|(go_at_call 64;refine(A8 _ _ 5 (pl+c) aI ax _).mono ?_;rintro q w2 ⟨v,rfl,g1,g2⟩))
     go_ret;unfold IB;rw[HB.out];exact yx.He ⟨_,rfl,g1,g2⟩
   .have HB:Hid (Dj l ws=none):=ahN (λi hi=>H.out i (by rw[EM.out]at hi;omega));clear hc idx;go_wp2;go_ret;unfold IB;rw[HB.out];exact⟨rfl,_,rfl⟩
structure Vj(w:ah)(bo:aY)(n:Nat)(sh:Nat->xG)(vN vS vC:Nat->ai):Prop where
 cells:SC w bo n (λi=>WQ (sh i) (vN i) (vS i) (vC i))
 nm:∀i,i<n->qU w (vN i) (xe (sh i).names)/\(sh i).names.length<=1048576
 sz:∀i,i<n->qU w (vS i) (zV (sh i).sizes)/\(sh i).sizes.length<=1048576
 cl:∀i,i<n->qU w (vC i) (sJ (sh i).qH)
 kn:∀i,i<n->(sh i).k<=1048576
theorem qU.one{w:ah}{v:ai}{xs:aK}(h:qU w v xs):v.oneCell'=true:=by obtain⟨ba,cap,rfl,_⟩:=h;rfl
theorem qU.adW{w w':ah}{v:ai}{xs:aK}{B:Nat}(h:qU w v xs)(hb:Below B w w')(hB:w.heap.size<=B):qU w' v xs:=h.below (hb.mono hB)
theorem Vj.below{w w':ah}{bo:aY}{n B:Nat}{sh:Nat->xG}{vN vS vC:Nat->ai}(h:Vj w bo n sh vN vS vC)(hb:Below B w w')(hB:w.heap.size<=B):Vj w' bo n sh vN vS vC:=
 ⟨h.cells.below hb hB,λi hi=>⟨(h.nm i hi).1.adW hb hB,(h.nm i hi).2⟩,λi hi=>⟨(h.sz i hi).1.adW hb hB,(h.sz i hi).2⟩,λi hi=>(h.cl i hi).adW hb hB,h.kn⟩
def BH(n:Nat)(sh:Nat->xG):Prop:=∀i,i<n->OE (sh 0) (sh i)=true
def Dup(n:Nat)(sh:Nat->xG):Prop:=∃t,t+1<n/\(sh (t+1)).i=(sh t).i
def Gz(n:Nat)(sh:Nat->xG)(e:Nat):Prop:=(e=10/\¬BH n sh)\/(e=11/\BH n sh/\Dup n sh)\/(e=12/\BH n sh/\¬Dup n sh/\(n=0\/n<(sh 0).k))\/(e=0/\BH n sh/\¬Dup n sh/\0<n/\(sh 0).k<=n)
def anJ(n:Nat)(sh:Nat->xG)(w:ah)(r:Ending)(w':ah):Prop:=Below w.heap.size w w'/\∃e v,Gz n sh e/\r=.returned v/\(e=0->v=.nilIface)/\(e≠0->∃p,sV w' 0 v e p)
theorem PS(n cap:Nat)(bo:aY)(sh:Nat->xG)(vN vS vC:Nat->ai)(w:ah)(hn:n<=1048576)(H:Vj w bo n sh vN vS vC):
  Calls prog 36 #[.slice bo n cap] w λr w'=>anJ n sh w r w':=by
 go_enter func36,ntmps36;go_wp2
 go_loopw [3,4,8] (λ_ _ vi wr=>∃j:Nat,j<=n/\vi=.int .i64 (j:Int)/\Below w.heap.size w wr/\BH j sh) (λ_ _ vi _=>n-(intOf vi).toNat)
 case atStart=>exact⟨0,ag,rfl,aT _ _,λi hi=>absurd hi ag⟩
 case round=>
  obtain⟨j,hj,rfl,hb,w_⟩:=hrel;have Hr:=H.below hb (az _);by_cases qK:j<n
  .have Am:(j:Int)<(n:Int):=ag;have h0n:(0:Int)<(n:Int):=ag;obtain⟨b,o,rfl,L_,hcell⟩:=Hr.cells ag;have rj:=hcell j qK;have r0:=hcell 0 ag;have tN:=yB _ (Hr.nm j qK).1.one;have tS:=yB _ (Hr.sz j qK).1.one;have tC:=yB _ (Hr.cl j qK).one;unfold WQ at rj r0;obtain⟨p0,p1,p2,p3,p4,p5,p6⟩:=QL rj;obtain⟨q0,q1,q2,q3,q4,q5,q6⟩:=QL r0;simp only[gX,gy]at q0 q1 q2 q3 q4 q5 q6;have b1:Below wr.heap.size wr (wr.alloc (.cells (WQ (sh j) (vN j) (vS j) (vC j)).toArray 55)):=(aT _ _).alloc (az _) _;have cn:=Ew wr (WQ (sh j) (vN j) (vS j) (vC j)) 55;have H1:=Hr.below b1.drew (az _);have k1:=ahg (sh 0) (sh j) (vN 0) (vS 0) (vC 0) (vN j) (vS j) (vC j) _ (H1.nm 0 ag).1 (H1.sz 0 ag).1 (H1.nm j qK).1 (H1.sz j qK).1 (H1.nm 0 ag).2 (H1.sz 0 ag).2;have q':∀{x:Nat}{u:ai},wr.cell? ⟨b,x,none⟩=some u->(wr.alloc (.cells (WQ (sh j) (vN j) (vS j) (vC j)).toArray 55)).cell? ⟨b,x,none⟩=some u:=λ{x u} h=>(b1.cell (p:=⟨b,x,none⟩) L_).trans h;replace q0:=q' q0;replace q1:=q' q1;replace q2:=q' q2;replace q3:=q' q3;replace q4:=q' q4;replace q5:=q' q5;replace q6:=q' q6;have c0:=cn 0;have c1:=cn 1;have c2:=cn 2;have c3:=cn 3;have c4:=cn 4;have c5:=cn 5;have c6:=cn 6;have b2:=hb.trans (b1.mono hb.size);simp only[WQ,jB,jD]at c0 c1 c2 c3 c4 c5 c6 k1 q0 q1 q2 q3 q4 q5 q6 b2;clear H1 cn q' r0 rj hcell b1
   go_wp2_with fail
   generalize BB:wr.alloc (.cells #[.int .i64 ((sh j).k:Int),.int .i64 ((sh j).n:Int),.int .i64 ((sh j).i:Int),.int .i64 ((sh j).c:Int),vN j,vS j,vC j] 55)=w1 at*;clear BB p0 p1 p2 p3 p4 p5 p6 tN tS tC;rcases ho:OE (sh 0) (sh j)with _|_
   .rw[ho]at k1
    go_region_with (first|(go_at_call 63;(with_reducible refine k1.mono ?_);rintro r w2 ⟨rfl,tX⟩))
    all_goals
     go_wp2_with(first|(go_at_call 64;refine(A8 _ _ 10 j aI ax _).mono ?_;rintro q w3 ⟨v,rfl,h1,h2⟩))
     go_ret;exact⟨(b2.drew.trans (tX.mono b2.size)).trans (h2.mono (bu b2.size tX.size)),10,v,.inl ⟨rfl,λhA=>by have:=hA j qK;rw[ho]at this;cases this⟩,rfl,λh=>absurd h aC,λ_=>⟨j,h1⟩⟩
   .rw[ho]at k1
    go_region_with (first|(go_at_call 63;(with_reducible refine k1.mono ?_);rintro r w2 ⟨rfl,tX⟩))
    all_goals
     go_wp2
     go_roundw
     case rel=>exact⟨j+1,ag,bU,b2.drew.trans (tX.mono b2.size),λi hi=>by
      by_cases e:i=j
      .rw[e];exact ho
      .exact w_ i ag⟩
     case measure=>simp[intOf];omega
  .obtain rfl:j=n:=ag;have Hg:¬((j:Int)<(j:Int)):=ag;go_wp2
   go_loopw [5] (λvt w2=>∃x:Nat,(x+1<=j\/x=0)/\vt=.int .i64 ((x:Int)+1)/\Below w.heap.size w w2/\∀y,y<x->(sh (y+1)).i≠(sh y).i) (λvt _=>j+1-(intOf vt).toNat)
   case atStart=>exact⟨0,.inr rfl,rfl,hb,λy hy=>absurd hy ag⟩
   case round=>
    clear hb Hr;obtain⟨x,hx,rfl,hb,asJ⟩:=hrel;have Hr:=H.below hb (az _);by_cases qK:x+1<j
    .have alo:(x:Int)+1<(j:Int):=ag;have aqB:(x:Int)<(j:Int):=ag;have ed:((x:Int)+1)-1=(x:Int):=ag;obtain⟨b,o,rfl,L_,hcell⟩:=Hr.cells ag;have c1:=hcell (x+1) qK 2 _ rfl;have c0:=hcell x ag 2 _ rfl;clear hcell;rcases he:(((sh (x+1)).i:Int)==((sh x).i:Int))with _|_
     .go_wp2_with fail
      go_region;go_wp2
      go_roundw
      case rel=>exact⟨x+1,.inl ag,bU,hb.drew,λy hy=>by
       by_cases e:y=x
       .rw[e];intro h;rw[h]at he;simp at he
       .exact asJ y ag⟩
      case measure=>simp[intOf];omega
     .go_wp2_with fail
      go_region
      go_wp2_with(first|(go_at_call 64;refine(A8 11 ((x:Int)+1) 11 (x+1) rfl ag _).mono ?_;rintro q w3 ⟨v,rfl,h1,h2⟩))
      go_ret;exact⟨hb.drew.trans (h2.mono hb.size),11,v,.inr (.inl ⟨rfl,w_,x,qK,by have:=eq_of_beq he;omega⟩),rfl,λh=>absurd h aC,λ_=>⟨_,h1⟩⟩
    .have Hg:¬((x:Int)+1<(j:Int)):=ag;have hnd:¬Dup j sh:=λ⟨t,ht,e⟩=>asJ t ag e;rcases fE j with h0|h0
     .subst h0
      go_wp2_with(first|(go_at_call 64;refine(A8 _ _ 12 0 aI aI _).mono ?_;rintro q w3 ⟨v,rfl,h1,h2⟩))
      go_ret;exact⟨hb.trans (h2.mono hb.size),12,v,.inr (.inr (.inl ⟨rfl,w_,hnd,.inl rfl⟩)),rfl,λh=>absurd h aC,λ_=>⟨_,h1⟩⟩
     .have he:((j:Int)==0)=false:=aS;have h0n:(0:Int)<(j:Int):=ag;obtain⟨b,o,rfl,L_,hcell⟩:=Hr.cells h0;have c0:=hcell 0 h0 0 _ rfl;simp only[gX,gy]at c0;clear hcell;by_cases hk:(j:Int)<((sh 0).k:Int)
      .go_wp2_with(first|(go_at_call 64;refine(A8 _ _ 12 j aI ax _).mono ?_;rintro q w3 ⟨v,rfl,h1,h2⟩))
       go_ret;exact⟨hb.trans (h2.mono hb.size),12,v,.inr (.inr (.inl ⟨rfl,w_,hnd,.inr ag⟩)),rfl,λh=>absurd h aC,λ_=>⟨_,h1⟩⟩
      .go_wp2;go_ret;exact⟨hb,0,_,.inr (.inr (.inr ⟨rfl,w_,hnd,h0,ag⟩)),rfl,λ_=>rfl,λh=>absurd rfl h⟩
def Nh(z pl:Nat)(t:ak):Option (Nat×Nat):=
 if t.length<z then some (4,pl+t.length)
 else if sumOf (part t 0 (t.length-8))=le (part t (t.length-8) 8) 0 8 then none else some (6,pl+(t.length-8))
def zT(w:ah)(x:Option (Nat×Nat))(bt:aY)(tl ct:Nat)(q:Ending)(w':ah):Prop:=
 match x with
 |some e=>∃v,q=.returned (.tuple #[.slice none 0 0,v])/\sV w' 0 v e.1 e.2/\Below w.heap.size w w'
 |none=>q=.returned (.tuple #[.slice bt (tl-8) ct,.nilIface])/\∃j,w'=w.drewN j
section
variable (rb:Nat)(r:Rd)(bc:aY)(cl cc:Nat)(hC:r.vC=.slice bc cl cc)(hm:r.m<=1000000)(hc:r.c<=1000000)(hl:r.ln<=1000000)(Md:cl<=r.ln)(Ox:r.nx<=2)(t:ak)(bt:aY)(ct:Nat)(hT:r.vT=.slice bt t.length ct)(Y9:t.length<=1000000000)(vY:r.pl<=1000000000000)(w:ah)(h:yw w rb r)(hL:qU w r.vT (sJ t))(uY:Du w)
include hC hm hc hl Md Ox hT Y9 vY h hL uY in
theorem Kv:
  Calls prog 135 #[.pointer (some ⟨rb,0,none⟩)] w λq w'=>zT w (Nh (yT r.nx r.c r.m r.ln cl) r.pl t) bt t.length ct q w':=by
 have hz8:8<=yT r.nx r.c r.m r.ln cl:=by
  unfold yT;split
  .omega
  .split
   .omega
   .split
    .omega
    .omega
 have KY:=YW rb r bc cl cc hC hm hc hl Md ag bt t.length ct hT w h;have KN:=acE rb r bc cl cc hC hm hc hl Md ag bt t.length ct hT Y9 vY w h;obtain⟨z,ez⟩:∃z,yT r.nx r.c r.m r.ln cl=z:=⟨_,rfl⟩;simp only[ez]at KY KN hz8⊢;have c12:w.cell? ⟨rb,12,none⟩=some (.slice bt t.length ct):=awT;have Uz:w.cell? ⟨rb,11,none⟩=some (.int .i64 (r.pl:Int)):=ql.cell h rfl;obtain⟨pl,XJ⟩:∃pl,r.pl=pl:=⟨_,rfl⟩;rw[XJ]at Uz vY KN⊢;rcases bJ t.length z with q|q
 .have HP:Hid (Nh z pl t=some (4,pl+t.length)):=ay q;have K:=KN q;clear KY KN h hC hT hL;go_enter func135,ntmps135
  go_wp2_with(first|(go_at_call 140;refine K.mono ?_;rintro q w2 ⟨v,rfl,g1,g2⟩;obtain⟨ty,x,rfl⟩:=g1.iface))
  go_ret2;unfold zT;rw[HP.out];exact⟨_,rfl,g1,g2⟩
 .have K:=KY q
  obtain⟨b,off,eb,hby⟩:∃b off,bt=some ⟨b,off,none⟩/\Dv w b off t:=by obtain⟨ba,cap,e1,e2,e3⟩:=hL;rw[hT,sZ]at e1;cases e1;obtain⟨b,off,e4,_⟩:=e3 0 _ (wJ ag);refine⟨b,off,e4,λi hi=>?_⟩;obtain⟨b',ahO,e5,e6⟩:=e3 i _ (wJ hi);rw[e4]at e5;cases e5;exact e6
  subst eb;obtain⟨en,een⟩:∃en,t.length=en+8:=⟨t.length-8,ag⟩
  have Ci:t.length<=ct:=by obtain⟨ba,cap,e1,e2,e3⟩:=hL;rw[hT,sZ]at e1;cases e1;rw[sZ]at e2;exact e2
  have I8:Dv w b off (part t 0 en):=by have:=hby.part (a:=0) (n:=en) ag;exact this
  have Ap:Dv w b (off+en) (part t en 8):=hby.part ag;have e1:(part t 0 en).length=en:=qN ag;have e2:(part t en 8).length=8:=qN ag;have K1:=λn cap=>Yp b off cap (part t 0 en) ag (w.drewN n) I8 (uY.heap rfl)
  have K2:=λn cap=>xy b (off+en) 8 cap (part t en 8) e2 ag (w.drewN n) Ap
  rw[e1]at K1
  have hS:Nh z pl t=if sumOf (part t 0 en)=le (part t en 8) 0 8 then none else some (6,pl+en):=by unfold Nh;rw[au ag,een,iF]
  have yE:=JG (part t 0 en);have zU:le (part t en 8) 0 8<2^64:=by have:=SY (part t en 8) 8 0;simpa using this
  obtain⟨s1,MC⟩:∃s1,sumOf (part t 0 en)=s1:=⟨_,rfl⟩;obtain⟨s2,es2⟩:∃s2,le (part t en 8) 0 8=s2:=⟨_,rfl⟩;rw[MC,es2]at hS;simp only[MC]at K1 yE;simp only[es2]at K2 zU;have HS:Hid (Nh z pl t=if s1=s2 then none else some (6,pl+en)):=hS;rw[een]at c12 Ci Y9⊢;clear KY KN h hC hT hL hS MC es2 e1 e2 I8 Ap hby een;by_cases qs:s1=s2
  .have HP:Hid (Nh z pl t=none):=by rw[HS.out,ay qs];exact rfl
   subst qs;clear HS;go_enter func135,ntmps135
   go_wp2_with(first|(go_at_call 140;refine K.mono ?_;rintro q w2 ⟨rfl,j,yf⟩;obtain rfl:=yf.symm))
   go_big_quiet (first|(go_at_call 76;exact(K1 _ _).mono (λ_ _ h=>⟨h.1,_,h.2⟩))|(go_at_call 141;exact(K2 _ _).mono (λ_ _ h=>⟨h.1,_,h.2⟩)))
   go_wp2;go_ret2;unfold zT;rw[HP.out];exact⟨rfl,_,rfl⟩
  .have HP:Hid (Nh z pl t=some (6,pl+en)):=by rw[HS.out,au qs];exact rfl
   have q':((s1:Int)==(s2:Int))=false:=aS;have q2:((s1:Int) != (s2:Int))=true:=aS;have Zc:IntKind.i64.wrap ((pl:Int)+(en:Int))=(pl:Int)+(en:Int):=fM _ ag;clear HS;go_enter func135,ntmps135
   go_wp2_with(first|(go_at_call 140;refine K.mono ?_;rintro q w2 ⟨rfl,j,yf⟩;obtain rfl:=yf.symm))
   go_big_quiet (first|(go_at_call 76;exact(K1 _ _).mono (λ_ _ h=>⟨h.1,_,h.2⟩))|(go_at_call 141;exact(K2 _ _).mono (λ_ _ h=>⟨h.1,_,h.2⟩)))
   go_wp2_with(first|(go_at_call 64;refine(A8 _ _ 6 (pl+en) aI ax _).mono ?_;rintro q w2 ⟨v,rfl,g1,g2⟩))
   go_ret2;unfold zT;rw[HP.out];exact⟨_,rfl,g1,⟨g2.os,g2.tape,g2.output,g2.size,g2.block⟩⟩
end
theorem P5{P:aN}{o:Oper}{a:Act}{w:ah}{K K':Act->Prop}(hk:∀a,K a->K' a)(h:o.quiet P a (λw'=>w'=w) K):o.still P a w K':=by
 obtain⟨v,h1,h2⟩:=h;have h3:=h1 w rfl;unfold Oper.quietAt at h3;unfold Oper.still;generalize(execOp a.eval o).run P w=R at h3;unfold Oper.quietUpon at h3;unfold Oper.stillUpon;split at h3
 .exact⟨h3.1,by rw[h3.2];exact hk _ h2⟩
 .exact⟨h3.1,by rw[<-h3.2];exact hk _ h2⟩
 .exact⟨h3.1,v,h3.2,hk _ h2⟩
 .exact h3.elim
theorem Fh{P:aN}{ops:Array Oper}{w:ah}{Q:Act->Prop}:∀(l:List Oper)(a:Act),wpQuiet P ops (λw'=>w'=w) Q l a->wpStill P ops w Q l a
 |[],_,h=>h
 |o::rest,a,h=>by
  unfold wpQuiet at h;unfold wpStill;split
  .rename_i hw;rw[ay hw]at h;exact P5 (λa'=>Fh rest a') h
  .rename_i hw;rw[au hw]at h;exact Fh rest _ h
theorem Dk{P:aN}{id:Nat}{Q:Exit->Act->ah->Prop}{a:Act}{w:ah}{l:List Oper}(n:Nat)(hm:P.follows .mixedOrders=true)(hB:Region.lexTailB .any l.toArray n=true)
  (h:wpQuiet P l.toArray (λw'=>w'=w.drew) (λa'=>wpList P l.toArray Q (l.drop n) a' w.drew) (l.take n) a):(Code.region id l.toArray true).wp P Q a w:=
 EO n hm hB (Fh _ _ h)

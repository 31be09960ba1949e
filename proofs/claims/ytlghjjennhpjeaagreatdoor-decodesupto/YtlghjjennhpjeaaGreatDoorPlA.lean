import Derived.Test.YtlghjjennhpjeaaGreatDoorScanK
import Derived.Test.YtlghjjennhpjeaaGreatDoorCoK
import Derived.Stop.Asserts
import Derived.Handy
set_option maxHeartbeats 4000000
set_option maxRecDepth 100000
namespace Go.Proofs.Y
open Go.Proofs.Tryz
open Go.RowKit Go.Deep
def D7(s t:vZ):Bool:=((s.k:Int)==(t.k:Int))&&((s.n:Int)==(t.n:Int))&&((s.c:Int)==(t.c:Int))&&decide (s.names=t.names)&&decide (s.sizes=t.sizes)
def Me(s:vZ)(vN vS vC:ai):aK:=[.int .i64 (s.k:Int),.int .i64 (s.n:Int),.int .i64 (s.i:Int),.int .i64 (s.c:Int),vN,vS,vC]
theorem ag5(s t:vZ)(vN vS vC OT OU DX:ai)(w:ah)(hN:qP w vN (uU s.names))(hS:qP w vS (uH s.sizes))(hN':qP w OT (uU t.names))(IJ:qP w OU (uH t.sizes))(hl:s.names.length<=1048576)(hl2:s.sizes.length<=1048576):
  Calls prog 48 #[.agg (Me s vN vS vC).toArray,.agg (Me t OT OU DX).toArray] w λr w'=>r=.returned (.bool (D7 s t))/\Below w.heap.size w w':=by
 unfold Me;have b0:Below w.heap.size w (w.alloc (.cells #[.int .i64 (s.k:Int),.int .i64 (s.n:Int),.int .i64 (s.i:Int),.int .i64 (s.c:Int),vN,vS,vC] 41)):=(aO _ _).alloc (ay _) _;have b1:=b0.alloc b0.size (.cells #[.int .i64 (t.k:Int),.int .i64 (t.n:Int),.int .i64 (t.i:Int),.int .i64 (t.c:Int),OT,OU,DX] 41);have k1:=ag6 s.names t.names vN OT _ (hN.below b1) (hN'.below b1) hl;have k2:=λm=>ag7 s.sizes t.sizes vS OU _ ((hS.below b1).drewN m) ((IJ.below b1).drewN m) hl2
 go_enter func48,ntmps48;rcases h1:((s.k:Int)==(t.k:Int))with _|_
 .go_wp2;go_ret;exact⟨by rw[D7,h1];rfl,b1⟩
 rcases h2:((s.n:Int)==(t.n:Int))with _|_
 .go_wp2;go_ret;exact⟨by rw[D7,h1,h2];rfl,b1⟩
 rcases h3:((s.c:Int)==(t.c:Int))with _|_
 .go_wp2;go_ret;exact⟨by rw[D7,h1,h2,h3];rfl,b1⟩
 rcases h4:decide (s.names=t.names)with _|_
 .rw[h4]at k1
  go_wp2_with(first|(go_at_call 71;(with_reducible refine k1.mono ?_);rintro r w2 ⟨rfl,xI⟩;obtain⟨m,xI⟩:=xI;obtain rfl:=xI.symm))
  exact axX
 rw[h4]at k1
 go_wp2_with(first
  |(go_at_call 71;(with_reducible refine k1.mono ?_);rintro r w2 ⟨rfl,xI⟩;obtain⟨m,xI⟩:=xI;obtain rfl:=xI.symm)
  |(go_at_call 72;(with_reducible refine(k2 m).mono ?_);rintro r w3 ⟨rfl,PY⟩;obtain⟨m',PY⟩:=PY;obtain rfl:=PY.symm))
 exact axX
end Go.Proofs.Y
namespace Go.Proofs.Y
open Go.Proofs.Tryz
open Go.RowKit Go.Extern.Stop Go.Stop Go.Extern
def sF(w:ah):Nat->ai->Nat->Nat->Prop
 |0,v,e,p=>∃b,v=.iface 74 (.pointer (some ⟨b,0,none⟩))/\ql w b [.int .i64 (e:Int),.int .i64 (p:Int)] 78
 |d+1,v,e,p=>∃b s c,v=.iface 116 (.pointer (some ⟨b,0,none⟩))/\ql w b [.string s,c] 118/\sF w d c e p
def wU(w:ah)(a:Addr):Prop:=w.cell? ⟨0,0,none⟩=some (.iface 234 (.pointer (some a)))
theorem adY(v:ai)(w:ah):(callFunc 67 #[.iface 234 v]).run prog w=.ok (.value (.iface 163 (.agg #[.pointer (some ⟨7,234,none⟩)]))) w:=ak
theorem Vw(w:ah):(callFunc 184 #[.agg #[.pointer (some ⟨7,234,none⟩)]]).run prog w=.ok (.value (.bool true)) w:=ak
theorem apP:(prog.info? 234).map (·.comparable)=some true:=ak
theorem apQ:(prog.info? 254).map (·.size)=some 1:=ak
theorem adZ(v:ai)(xT:aG)(w:ah):(Instr.typeAssert (.iface 74 v) xT 175 true).run prog w=.ok (.tuple #[.iface 74 v,.bool true]) w:=run_typeAssert_hasB underlying175 ak v xT w
theorem Qu(v:ai)(xT:aG)(w:ah):(Instr.typeAssert (.iface 74 v) xT 170 true).run prog w=.ok (.tuple #[.nilIface,.bool false]) w:=run_typeAssert_lacksB underlying170 ak ak v xT w
theorem NQ(v:ai)(xT:aG)(w:ah):(Instr.typeAssert (.iface 74 v) xT 172 true).run prog w=.ok (.tuple #[.nilIface,.bool false]) w:=run_typeAssert_lacksB underlying172 ak ak v xT w
theorem anL(v:ai)(xT:aG)(w:ah):(Instr.typeAssert (.iface 116 v) xT 175 true).run prog w=.ok (.tuple #[.nilIface,.bool false]) w:=run_typeAssert_lacksB underlying175 ak ak v xT w
theorem ER(v:ai)(xT:aG)(w:ah):(Instr.typeAssert (.iface 116 v) xT 170 true).run prog w=.ok (.tuple #[.iface 116 v,.bool true]) w:=run_typeAssert_hasB underlying170 ak v xT w
theorem J3(b:Nat)(a:Addr)(e p:Nat)(w:ah)(h:ql w b [.int .i64 (e:Int),.int .i64 (p:Int)] 78)(hE:wU w a):
  Calls prog 176 #[.pointer (some ⟨b,0,none⟩),.iface 234 (.pointer (some a))] w λr w'=>r=.returned (.bool (decide (e=4)))/\w'=w:=by
 obtain⟨i,hi,ahB⟩:=dU.1 apP;obtain⟨j,hj,hjs⟩:=dU.1 apQ;have heq:=run_eql_iface_ptr_same (P:=prog) w a underlying45 underlying234 hi ahB hj;have c0:=h.cell (i:=0) rfl;unfold wU at hE;by_cases q:e=4
 .subst q;go_enter func176,ntmps176;exact axd
 .have q':((e:Int)==4)=false:=aJ;have HQ:Hid (decide (e=4)=false):=dY q;clear q;go_enter func176,ntmps176;go_wp2;go_ret;exact⟨XJ (by rw[HQ.out]),rfl⟩
theorem BB(b:Nat)(s:ByteArray)(c:ai)(w:ah)(h:ql w b [.string s,c] 118):
  Calls prog 178 #[.pointer (some ⟨b,0,none⟩)] w λr w'=>r=.returned c/\w'=w:=by
 have c1:=h.cell (i:=1) rfl;go_enter func178,ntmps178;exact axd
theorem is0(b:Nat)(a:Addr)(e p:Nat)(w:ah)(h:ql w b [.int .i64 (e:Int),.int .i64 (p:Int)] 78)(hE:wU w a):
  Calls prog 68 #[.iface 74 (.pointer (some ⟨b,0,none⟩)),.iface 234 (.pointer (some a)),.bool true] w λr w'=>r=.returned (.bool (decide (e=4)))/\w'=w:=by
 have K:=J3 b a e p w h hE;have i1:=adZ;have i2:=Qu;have i3:=NQ;have hty:=run_eql_iface_types (P:=prog) 74 234 (.pointer (some ⟨b,0,none⟩)) (.pointer (some a)) underlying45 aB w;cases q:decide (e=4)
 all_goals rw[q]at K
 all_goals
  go_enter func68,ntmps68;go_wp2;refine lH 1 ?_;rw[gK]
  go_wp2_with(first|(go_at_call 176;refine K.mono ?_;rintro r w' ⟨rfl,sH⟩;obtain rfl:=sH.symm))
  exact axh
theorem is1(b0 b:Nat)(s0:ByteArray)(a:Addr)(e p:Nat)(w:ah)(h0:ql w b0 [.string s0,.iface 74 (.pointer (some ⟨b,0,none⟩))] 118)(h:ql w b [.int .i64 (e:Int),.int .i64 (p:Int)] 78)(hE:wU w a):
  Calls prog 68 #[.iface 116 (.pointer (some ⟨b0,0,none⟩)),.iface 234 (.pointer (some a)),.bool true] w λr w'=>r=.returned (.bool (decide (e=4)))/\w'=w:=by
 have K:=J3 b a e p w h hE;have K0:=BB b0 s0 _ w h0;have i1:=adZ;have i2:=Qu;have i3:=NQ;have i4:=anL;have i5:=ER;have hty:=run_eql_iface_types (P:=prog) 74 234 (.pointer (some ⟨b,0,none⟩)) (.pointer (some a)) underlying45 aB w;have ase:=run_eql_iface_types (P:=prog) 116 234 (.pointer (some ⟨b0,0,none⟩)) (.pointer (some a)) underlying45 aB w;cases q:decide (e=4)
 all_goals rw[q]at K
 all_goals
  go_enter func68,ntmps68;go_wp2;refine lH 2 ?_;rw[gK]
  go_wp2_with(first|(go_at_call 176;refine K.mono ?_;rintro r w' ⟨rfl,sH⟩;obtain rfl:=sH.symm)|(go_at_call 178;with_reducible refine K0.mono ?_;rintro r w' ⟨rfl,sH⟩;obtain rfl:=sH.symm))
  rw[gK]
  go_wp2_with(first|(go_at_call 176;refine K.mono ?_;rintro r w' ⟨rfl,sH⟩;obtain rfl:=sH.symm)|(go_at_call 178;with_reducible refine K0.mono ?_;rintro r w' ⟨rfl,sH⟩;obtain rfl:=sH.symm))
  exact axh
theorem is2(b0 b1 b:Nat)(s0 s1:ByteArray)(a:Addr)(e p:Nat)(w:ah)(h0:ql w b0 [.string s0,.iface 116 (.pointer (some ⟨b1,0,none⟩))] 118)(h1:ql w b1 [.string s1,.iface 74 (.pointer (some ⟨b,0,none⟩))] 118)(h:ql w b [.int .i64 (e:Int),.int .i64 (p:Int)] 78)(hE:wU w a):
  Calls prog 68 #[.iface 116 (.pointer (some ⟨b0,0,none⟩)),.iface 234 (.pointer (some a)),.bool true] w λr w'=>r=.returned (.bool (decide (e=4)))/\w'=w:=by
 have K:=J3 b a e p w h hE;have K0:=BB b0 s0 _ w h0;have K1:=BB b1 s1 _ w h1;have i1:=adZ;have i2:=Qu;have i3:=NQ;have i4:=anL;have i5:=ER;have hty:=run_eql_iface_types (P:=prog) 74 234 (.pointer (some ⟨b,0,none⟩)) (.pointer (some a)) underlying45 aB w;have ase:=run_eql_iface_types (P:=prog) 116 234 (.pointer (some ⟨b0,0,none⟩)) (.pointer (some a)) underlying45 aB w;have atP:=run_eql_iface_types (P:=prog) 116 234 (.pointer (some ⟨b1,0,none⟩)) (.pointer (some a)) underlying45 aB w;cases q:decide (e=4)
 all_goals rw[q]at K
 all_goals
  go_enter func68,ntmps68;go_wp2;refine lH 3 ?_;rw[gK]
  go_wp2_with(first|(go_at_call 176;refine K.mono ?_;rintro r w' ⟨rfl,sH⟩;obtain rfl:=sH.symm)|(go_at_call 178;with_reducible refine K0.mono ?_;rintro r w' ⟨rfl,sH⟩;obtain rfl:=sH.symm)|(go_at_call 178;with_reducible refine K1.mono ?_;rintro r w' ⟨rfl,sH⟩;obtain rfl:=sH.symm))
  rw[gK]
  go_wp2_with(first|(go_at_call 176;refine K.mono ?_;rintro r w' ⟨rfl,sH⟩;obtain rfl:=sH.symm)|(go_at_call 178;with_reducible refine K0.mono ?_;rintro r w' ⟨rfl,sH⟩;obtain rfl:=sH.symm)|(go_at_call 178;with_reducible refine K1.mono ?_;rintro r w' ⟨rfl,sH⟩;obtain rfl:=sH.symm))
  rw[gK]
  go_wp2_with(first|(go_at_call 176;refine K.mono ?_;rintro r w' ⟨rfl,sH⟩;obtain rfl:=sH.symm)|(go_at_call 178;with_reducible refine K0.mono ?_;rintro r w' ⟨rfl,sH⟩;obtain rfl:=sH.symm)|(go_at_call 178;with_reducible refine K1.mono ?_;rintro r w' ⟨rfl,sH⟩;obtain rfl:=sH.symm))
  exact axh
theorem ak5(d:Nat)(hd:d<=2)(v:ai)(a:Addr)(e p:Nat)(w:ah)(h:sF w d v e p)(hE:wU w a):
  Calls prog 68 #[v,.iface 234 (.pointer (some a)),.bool true] w λr w'=>r=.returned (.bool (decide (e=4)))/\w'=w:=by
 match d,hd,h with
 |0,_,⟨b,e1,h1⟩=>subst e1;exact is0 b a e p w h1 hE
 |1,_,⟨b0,s0,c,e1,h1,b,e2,h2⟩=>subst e1 e2;exact is1 b0 b s0 a e p w h1 h2 hE
 |2,_,⟨b0,s0,c,e1,h1,b1,s1,c1,e2,h2,b,e3,h3⟩=>subst e1 e2 e3;exact is2 b0 b1 b s0 s1 a e p w h1 h2 h3 hE
theorem sF.iface{w:ah}{d:Nat}{v:ai}{e p:Nat}(h:sF w d v e p):∃t x,v=.iface t x:=by
 match d,h with
 |0,⟨b,e1,_⟩=>exact⟨_,_,e1⟩
 |d+1,⟨b,s,c,e1,_,_⟩=>exact⟨_,_,e1⟩
theorem ao8(a:Addr)(w:ah):
  Calls prog 43 #[.nilIface,.iface 234 (.pointer (some a))] w λr w'=>r=.returned (.bool false)/\w'=w:=by
 have hn:=run_eql_iface_nil_left (P:=prog) w 234 (.pointer (some a)) underlying45;go_enter func43,ntmps43;exact axd
theorem O1(d:Nat)(hd:d<=2)(v:ai)(a:Addr)(e p:Nat)(w:ah)(h:sF w d v e p)(hE:wU w a):
  Calls prog 43 #[v,.iface 234 (.pointer (some a))] w λr w'=>r=.returned (.bool (decide (e=4)))/\w'=w:=by
 have K:=ak5 d hd v a e p w h hE;obtain⟨t,x,rfl⟩:=h.iface;have tT:=adY;have cT:=Vw;clear h hE;cases q:decide (e=4)
 all_goals rw[q]at K
 all_goals
  go_enter func43,ntmps43
  go_wp2_with(first|(go_at_call 68;refine K.mono ?_;rintro r w' ⟨rfl,sH⟩;obtain rfl:=sH.symm))
  exact axh
end Go.Proofs.Y
namespace Go.Proofs.Y
open Go.Proofs.Tryz
open Go.RowKit Go.Deep
theorem sF.under{w w':ah}(hb:Below w.heap.size w w'):∀{d:Nat}{v:ai}{e p:Nat},sF w d v e p->sF w' d v e p
 |0,_,_,_,⟨b,e1,h1⟩=>⟨b,e1,h1.later (S:=λ_=>False) (.qw hb) h1.lt id⟩
 |_+1,_,_,_,⟨b,s,c,e1,h1,h2⟩=>⟨b,s,c,e1,h1.later (S:=λ_=>False) (.qw hb) h1.lt id,sF.under hb h2⟩
def xW(w:ah)(d e p:Nat)(r:Ending)(w':ah):Prop:=∃v,r=.returned v/\sF w' d v e p/\Below w.heap.size w w'
theorem AA(E P:Int)(e p:Nat)(hE:E=e)(hP:P=p)(w:ah):
  Calls prog 49 #[.int .i64 E,.int .i64 P] w λr w'=>xW w 0 e p r w':=by
 subst hE hP;have hr:=ql.made w [.int .i64 (e:Int),.int .i64 (p:Int)] 78;have hB:=(aO w.heap.size w).alloc (ay _) (.cells #[.int .i64 (e:Int),.int .i64 (p:Int)] 78);go_enter func49,ntmps49;go_wp2;go_ret;exact⟨_,rfl,⟨_,rfl,hr⟩,hB⟩
theorem Iq(s:ByteArray)(w:ah):
  Calls prog 24 #[.string s,.nilIface] w λr w'=>r=.returned .nilIface/\w'=w:=by
 go_enter func24,ntmps24;exact axd
theorem yI(s:ByteArray)(d:Nat)(v:ai)(e p:Nat)(w:ah)(h:sF w d v e p):
  Calls prog 24 #[.string s,v] w λr w'=>xW w (d+1) e p r w':=by
 have hr:=ql.made w [.string s,v] 118;have hB:=(aO w.heap.size w).alloc (ay _) (.cells #[.string s,v] 118);have hc:=h.under hB;obtain⟨t,x,rfl⟩:=h.iface;clear h;go_enter func24,ntmps24;go_wp2;go_ret;exact⟨_,rfl,⟨_,_,_,rfl,hr,hc⟩,hB⟩
theorem le_succ(l:aj):∀(n a:Nat),le l a (n+1)=le l a n+256^n*sV l (a+n)
 |0,a=>by simp[le]
 |n+1,a=>by
  have h:=le_succ l n (a+1);show sV l a+256*le l (a+1) (n+1)=(sV l a+256*le l (a+1) n)+_;rw[h,show a+1+n=a+(n+1)by omega,jH,Nat.mul_add];have:256*(256^n*sV l (a+(n+1)))=256^n*256*sV l (a+(n+1)):=by rw[<-Nat.mul_assoc,fQ 256]
  omega
theorem ag8{a b:Nat}(ha:a<2^64)(hb:b<2^64):bits .or .u64 (a:Int) (b:Int)=((a|||b:Nat):Int):=by show IntKind.u64.wrap ((BitVec.ofInt 64 (a:Int)|||BitVec.ofInt 64 (b:Int)).toNat:Int)=_;rw[BitVec.toNat_or,BG a ha,BG b hb,FD _ (Nat.or_lt_two_pow ha hb)]
theorem ajV{x y c:Nat}(hc:c<8)(hx:x<256^c)(hy:y<256):bits .or .u64 (x:Int) (IntKind.u64.wrap ((y:Int)*2^(8*c)))=((x+256^c*y:Nat):Int)/\x+256^c*y<256^(c+1):=by
 have e:(256:Nat)^c=2^(8*c):=by rw[Nat.pow_mul]
 have h56:2^(8*c)<=2^56:=m_ ag ag;have hp:y*2^(8*c)<=255*2^56:=iI ag h56;have ei:(y:Int)*2^(8*c)=((y*2^(8*c):Nat):Int):=aA;rw[e]at hx⊢
 have hsum:x+2^(8*c)*y<256^(c+1):=by
  have h1:2^(8*c)*y<=2^(8*c)*255:=avV _ ag;have h2:256^(c+1)=2^(8*c)*256:=by rw[jH,e]
  omega
 refine⟨?_,hsum⟩;rw[ei,FD _ ag,ag8 ag ag];have h3:=Nat.shiftLeft_add_eq_or_of_lt hx y;rw[auJ]at h3;rw[Nat.or_comm,<-h3,fQ y,nC]
theorem xe(bb bo n cap:Nat)(l:aj)(hn:l.length=n)(hn8:n<=8)(w:ah)(hb:xM w bb bo l):
  Calls prog 139 #[.slice (some ⟨bb,bo,none⟩) n cap] w λr w'=>r=.returned (.int .u64 (le l 0 n:Nat))/\w'=w:=by
 go_enter func139,ntmps139;go_wp2
 go_loop [3,8] (λvn vi=>∃c x:Nat,c<=n/\vi=.int .i64 (c:Int)/\vn=.int .u64 (x:Int)/\x<256^c/\Hid (x=le l 0 c)) (λ_ i=>n-(intOf i).toNat)
 case atStart=>exact⟨0,0,ag,rfl,rfl,aA,rfl⟩
 case round=>
  obtain⟨c,x,hc,rfl,rfl,hx,H⟩:=hrel;by_cases qB:c<n
  .have hcell:=hb c ag;have hy:=Ha l c;have H2:Hid _:=le_succ l c 0;rw[bJ]at H2;obtain⟨y,ey⟩:∃y,sV l c=y:=⟨_,rfl⟩;rw[ey]at hcell hy H2;obtain⟨h3,h4⟩:=ajV (show c<8 by omega) hx hy;have H4:Hid (x+256^c*y<256^(c+1)):=h4
   have H5:Hid (x+256^c*y=le l 0 (c+1)):=by show _=_;rw[H2.out,H.out]
   clear ey hb h4 hx H H2;obtain⟨z,ez⟩:∃z,x+256^c*y=z:=⟨_,rfl⟩;rw[ez]at h3 H4 H5;clear ez;go_wp2
   go_round
   case rel=>exact⟨c+1,z,ag,aV,rfl,H4.out,H5⟩
   case measure=>simp[intOf];omega
  .obtain rfl:c=n:=ag;clear hb hx;go_wp2;go_ret;exact⟨Zi (by rw[H.out]),rfl⟩
structure Rd where
 k:Nat
 n:Nat
 i:Nat
 c:Nat
 vN:ai
 vS:ai
 vC:ai
 m:Nat
 ln:Nat
 tt:Nat
 nx:Nat
 pl:Nat
 vT:ai
 vF:ai
def Rd.cells(r:Rd):aK:=[.int .i64 (r.k:Int),.int .i64 (r.n:Int),.int .i64 (r.i:Int),.int .i64 (r.c:Int),r.vN,r.vS,r.vC,.int .i64 (r.m:Int),.int .i64 (r.ln:Int),.int .i64 (r.tt:Int),.int .i64 (r.nx:Int),.int .i64 (r.pl:Int),r.vT,r.vF]
def xU(w:ah)(rb:Nat)(r:Rd):Prop:=ql w rb r.cells 102
def yM(nx c m ln cl:Nat):Nat:=if nx=0 then 32 else if nx=1 then m+8 else if nx=2 then min c (ln-cl)+8 else 4
theorem VU(rb:Nat)(r:Rd)(bc:aW)(cl cc:Nat)(hC:r.vC=.slice bc cl cc)(hm:r.m<=1000000)(hc:r.c<=1000000)(hl:r.ln<=1000000)(LP:cl<=r.ln)(Nh:r.nx<=3)(w:ah)(h:xU w rb r):
  Calls prog 118 #[.pointer (some ⟨rb,0,none⟩)] w λq w'=>q=.returned (.int .i64 (yM r.nx r.c r.m r.ln cl:Nat))/\∃j,w'=w.drewN j:=by
 obtain⟨k,n,i,c,vN,vS,vC,m,ln,tt,nx,pl,vT,vF⟩:=r;simp only at hC hm hc hl LP Nh⊢;subst hC;unfold xU Rd.cells at h;have c3:=h.cell (i:=3) rfl;have c6:=h.cell (i:=6) rfl;have c7:=h.cell (i:=7) rfl;have c8:=h.cell (i:=8) rfl;have Xj:=h.cell (i:=10) rfl;simp only at c3 c6 c7 c8 Xj;clear h;have hc4:nx=0\/nx=1\/nx=2\/nx=3:=ag;rcases hc4 with rfl|rfl|rfl|rfl
 .go_enter func118,ntmps118;exact axu
 .go_enter func118,ntmps118;exact axu
 .have HS:Hid (yM 2 c m ln cl=min c (ln-cl)+8):=rfl;rcases bK (ln-cl) c with q|q
  .have q':(ln:Int)-(cl:Int)<(c:Int):=ag;have HM:Hid ((min c (ln-cl)+8:Nat)=ln-cl+8):=mg;go_enter func118,ntmps118
   go_wp2_with fail
   go_big_quiet (fail)
   go_wp2;go_ret;exact⟨yZ awM,_,rfl⟩
  .have q':(c:Int)<=(ln:Int)-(cl:Int):=ag;have HM:Hid ((min c (ln-cl)+8:Nat)=c+8):=mg;go_enter func118,ntmps118
   go_wp2_with fail
   go_big_quiet (fail)
   go_wp2;go_ret;exact⟨yZ awM,_,rfl⟩
 .go_enter func118,ntmps118;exact axu
theorem ql.drewN{w:ah}{b:Nat}{cs:aK}{t:aG}(h:ql w b cs t)(j:Nat):ql (w.drewN j) b cs t:=h
section
variable (rb:Nat)(r:Rd)(bc:aW)(cl cc:Nat)(hC:r.vC=.slice bc cl cc)(hm:r.m<=1000000)(hc:r.c<=1000000)(hl:r.ln<=1000000)(LP:cl<=r.ln)(Nh:r.nx<=3)(bt:aW)(tl ct:Nat)(hT:r.vT=.slice bt tl ct)(TQ:tl<=1000000000)(uD:r.pl<=1000000000000)(w:ah)(h:xU w rb r)
include hC hm hc hl LP Nh hT h in
theorem X_(hs:yM r.nx r.c r.m r.ln cl<=tl):
  Calls prog 136 #[.pointer (some ⟨rb,0,none⟩)] w λq w'=>q=.returned .nilIface/\∃j,w'=w.drewN j:=by
 have K:∀j,Calls prog 118 #[.pointer (some ⟨rb,0,none⟩)] (w.drewN j) λq w'=>q=.returned (.int .i64 (yM r.nx r.c r.m r.ln cl:Nat))/\∃n,w'=w.drewN n:=λj=>
  (VU rb r bc cl cc hC hm hc hl LP Nh (w.drewN j) (ql.drewN h j)).mono λq w' x=>⟨x.1,by
   obtain⟨i,hi⟩:=x.2;exact⟨j+i,avv⟩⟩
 obtain⟨z,ez⟩:∃z,yM r.nx r.c r.m r.ln cl=z:=⟨_,rfl⟩;simp only[ez]at K hs;have Z4:w.cell? ⟨rb,12,none⟩=some (.slice bt tl ct):=avF;have xk:decide ((tl:Int)<(z:Int))=false:=aJ;have Gn:(z:Int)<=(tl:Int):=ag;clear ez h hC hT;go_enter func136,ntmps136
 go_wp2_with fail
 go_big_quiet (first|(go_at_call 118;exact(K _).mono (λ_ _ h=>⟨h.1,h.2⟩)))
 go_wp2;go_ret;exact⟨rfl,_,rfl⟩
include hC hm hc hl LP Nh hT TQ uD h in
theorem ab3(hs:tl<yM r.nx r.c r.m r.ln cl):
  Calls prog 136 #[.pointer (some ⟨rb,0,none⟩)] w λq w'=>xW w 0 4 (r.pl+tl) q w':=by
 have K:∀j,Calls prog 118 #[.pointer (some ⟨rb,0,none⟩)] (w.drewN j) λq w'=>q=.returned (.int .i64 (yM r.nx r.c r.m r.ln cl:Nat))/\∃n,w'=w.drewN n:=λj=>
  (VU rb r bc cl cc hC hm hc hl LP Nh (w.drewN j) (ql.drewN h j)).mono λq w' x=>⟨x.1,by
   obtain⟨i,hi⟩:=x.2;exact⟨j+i,avv⟩⟩
 obtain⟨z,ez⟩:∃z,yM r.nx r.c r.m r.ln cl=z:=⟨_,rfl⟩;simp only[ez]at K hs;have Z4:w.cell? ⟨rb,12,none⟩=some (.slice bt tl ct):=avF;have TT:w.cell? ⟨rb,11,none⟩=some (.int .i64 (r.pl:Int)):=ql.cell h rfl;have xk:decide ((tl:Int)<(z:Int))=true:=aJ;have Gn:(tl:Int)<(z:Int):=ag;obtain⟨pl,Wq⟩:∃pl,r.pl=pl:=⟨_,rfl⟩;rw[Wq]at TT uD⊢;clear ez h hC hT Wq;go_enter func136,ntmps136
 go_wp2_with fail
 go_big_quiet (first|(go_at_call 118;exact(K _).mono (λ_ _ h=>⟨h.1,h.2⟩)))
 go_wp2_with fail
 have RU:IntKind.i64.wrap ((pl:Int)+(tl:Int))=(pl:Int)+(tl:Int):=dH _ ag;refine uA 10 mixed ak ?_;simp only[jc,gG,jm,ik]
 repeat still_step
 refine wpStill_nil ?_
 go_wp2_with(first|(go_at_call 49;refine(AA _ _ 4 (pl+tl) aF aA _).mono ?_;rintro q w2 ⟨v,rfl,h1,h2⟩))
 go_ret;refine⟨_,rfl,h1,?_⟩;exact⟨h2.os,h2.tape,h2.output,h2.size,h2.block⟩
end
def EG(l ws:aj):Option Nat:=(List.range (min ws.length l.length)).find? λi=>decide (sV l i≠(ws.getD i 0).toNat)
def Ir(w:ah)(l ws:aj)(pl:Nat)(q:Ending)(w':ah):Prop:=
 match EG l ws with
 |none=>q=.returned .nilIface/\∃j,w'=w.drewN j
 |some i=>xW w 0 5 (pl+i) q w'
theorem ag9{l ws:aj}{c:Nat}(hc:c<min ws.length l.length)(h:∀i,i<c->sV l i=(ws.getD i 0).toNat)(hne:sV l c≠(ws.getD c 0).toNat):EG l ws=some c:=by unfold EG;rw[pq];exact⟨by simpa using hne,au5,λj hj=>by simpa using h j hj⟩
theorem ag_{l ws:aj}(h:∀i,i<min ws.length l.length->sV l i=(ws.getD i 0).toNat):EG l ws=none:=by unfold EG;rw[pz];intro i hi;have:=h i lg;exact axb
theorem xW.GU{w w':ah}{j d e p:Nat}{q:Ending}(h:xW (w.drewN j) d e p q w'):xW w d e p q w':=by obtain⟨v,h1,h2,h3⟩:=h;exact⟨v,h1,h2,⟨h3.os,h3.tape,h3.output,h3.size,h3.block⟩⟩
theorem Vx(rb:Nat)(r:Rd)(l ws:aj)(hw:ws.length<=100)(hl:l.length<=1000000000)(uD:r.pl<=1000000000000)(w:ah)(h:xU w rb r)(hT:qP w r.vT (rP l)):
  Calls prog 130 #[.pointer (some ⟨rb,0,none⟩),.string ⟨ws.toArray⟩] w λq w'=>Ir w l ws r.pl q w':=by
 obtain⟨bt,ct,ev,Ba,hc⟩:=hT;rw[ru]at ev Ba;have Z4:w.cell? ⟨rb,12,none⟩=some (.slice bt l.length ct):=by rw[<-ev];exact ql.cell h rfl
 have TT:w.cell? ⟨rb,11,none⟩=some (.int .i64 (r.pl:Int)):=ql.cell h rfl;obtain⟨pl,Wq⟩:∃pl,r.pl=pl:=⟨_,rfl⟩;rw[Wq]at TT uD⊢;have hsz:=amd ws;clear h ev Wq;have idx:=Ya ws;rcases bK l.length ws.length with q0|q0
 all_goals
  first|(have EM:Hid (min ws.length l.length=l.length):=(show _=_ by omega))|(have EM:Hid (min ws.length l.length=ws.length):=(show _=_ by omega))
  go_enter func130,ntmps130;go_wp2
  go_loopw [14] (λvi wr=>∃c j:Nat,c<=min ws.length l.length/\vi=.int .i64 (c:Int)/\wr=w.drewN j/\Hid (∀i,i<c->sV l i=(ws.getD i 0).toNat)) (λi _=>min ws.length l.length-(intOf i).toNat)
  case atStart=>exact⟨0,0,ag,rfl,rfl,λi hi=>absurd hi ag⟩
  case round=>
   obtain⟨c,j,sJ,rfl,rfl,H⟩:=hrel;by_cases qB:c<min ws.length l.length
   .obtain⟨b,off,rfl,hcell⟩:=hc c _ (wF ag);have hy:=Ha l c;have hz:(ws.getD c 0).toNat<256:=mY _;have VX:=idx c ag;obtain⟨y,ey⟩:∃y,sV l c=y:=⟨_,rfl⟩;obtain⟨z,ez⟩:∃z,(ws.getD c 0).toNat=z:=⟨_,rfl⟩;rw[ey]at hcell hy;rw[ez]at VX hz;have EY:Hid (sV l c=y):=ey;have EZ:Hid ((ws.getD c 0).toNat=z):=ez;clear ey ez hc idx;by_cases q:y=z
    .subst q
     go_wp2_with fail
     go_big_quiet (fail)
     go_wp2
     go_roundw
     case rel=>
      refine⟨c+1,_,ag,aV,rfl,λi hi=>?_⟩;rcases bK i c with h1|h1
      .exact H.out i h1
      .obtain rfl:i=c:=ag;rw[EY.out,EZ.out]
     case measure=>simp[intOf];omega
    .have q':((y:Int)==(z:Int))=false:=aJ;have q2:((y:Int) != (z:Int))=true:=aJ;have HB:Hid (EG l ws=some c):=ag9 (by rw[EM.out];omega) H.out (by rw[EY.out,EZ.out];exact q);have RU:IntKind.i64.wrap ((pl:Int)+(c:Int))=(pl:Int)+(c:Int):=dH _ ag
     go_wp2_with fail
     go_big_quiet (fail)
     go_wp2_with(first|(go_at_call 49;refine(AA _ _ 5 (pl+c) aF aA _).mono ?_;rintro q w2 ⟨v,rfl,g1,g2⟩))
     go_ret;unfold Ir;rw[HB.out];exact xW.GU ⟨_,rfl,g1,g2⟩
   .have HB:Hid (EG l ws=none):=ag_ (λi hi=>H.out i (by rw[EM.out]at hi;omega));clear hc idx;go_wp2;go_ret;unfold Ir;rw[HB.out];exact⟨rfl,_,rfl⟩
structure Tq(w:ah)(bo:aW)(n:Nat)(sh:Nat->vZ)(vN vS vC:Nat->ai):Prop where
 cells:SC w bo n (λi=>Me (sh i) (vN i) (vS i) (vC i))
 nm:∀i,i<n->qP w (vN i) (uU (sh i).names)/\(sh i).names.length<=1048576
 sz:∀i,i<n->qP w (vS i) (uH (sh i).sizes)/\(sh i).sizes.length<=1048576
 cl:∀i,i<n->qP w (vC i) (rP (sh i).qC)
 kn:∀i,i<n->(sh i).k<=1048576
theorem qP.one{w:ah}{v:ai}{xs:aK}(h:qP w v xs):v.oneCell'=true:=by obtain⟨ba,cap,rfl,_⟩:=h;rfl
theorem qP.aa0{w w':ah}{v:ai}{xs:aK}{B:Nat}(h:qP w v xs)(hb:Below B w w')(hB:w.heap.size<=B):qP w' v xs:=h.below (hb.mono hB)
theorem Tq.below{w w':ah}{bo:aW}{n B:Nat}{sh:Nat->vZ}{vN vS vC:Nat->ai}(h:Tq w bo n sh vN vS vC)(hb:Below B w w')(hB:w.heap.size<=B):Tq w' bo n sh vN vS vC:=
 ⟨h.cells.below hb hB,λi hi=>⟨(h.nm i hi).1.aa0 hb hB,(h.nm i hi).2⟩,λi hi=>⟨(h.sz i hi).1.aa0 hb hB,(h.sz i hi).2⟩,λi hi=>(h.cl i hi).aa0 hb hB,h.kn⟩
def NG(n:Nat)(sh:Nat->vZ):Prop:=∀i,i<n->D7 (sh 0) (sh i)=true
def Dup(n:Nat)(sh:Nat->vZ):Prop:=∃t,t+1<n/\(sh (t+1)).i=(sh t).i
def G5(n:Nat)(sh:Nat->vZ)(e:Nat):Prop:=(e=10/\¬NG n sh)\/(e=11/\NG n sh/\Dup n sh)\/(e=12/\NG n sh/\¬Dup n sh/\(n=0\/n<(sh 0).k))\/(e=0/\NG n sh/\¬Dup n sh/\0<n/\(sh 0).k<=n)
def amK(n:Nat)(sh:Nat->vZ)(w:ah)(r:Ending)(w':ah):Prop:=Below w.heap.size w w'/\∃e v,G5 n sh e/\r=.returned v/\(e=0->v=.nilIface)/\(e≠0->∃p,sF w' 0 v e p)
theorem Pn(n cap:Nat)(bo:aW)(sh:Nat->vZ)(vN vS vC:Nat->ai)(w:ah)(hn:n<=1048576)(H:Tq w bo n sh vN vS vC):
  Calls prog 23 #[.slice bo n cap] w λr w'=>amK n sh w r w':=by
 go_enter func23,ntmps23;go_wp2
 go_loopw [3,4,8] (λ_ _ vi wr=>∃j:Nat,j<=n/\vi=.int .i64 (j:Int)/\Below w.heap.size w wr/\NG j sh) (λ_ _ vi _=>n-(intOf vi).toNat)
 case atStart=>exact⟨0,ag,rfl,aO _ _,λi hi=>absurd hi ag⟩
 case round=>
  obtain⟨j,hj,rfl,hb,xg⟩:=hrel;have Hr:=H.below hb (ay _);by_cases qB:j<n
  .have xZ:(j:Int)<(n:Int):=ag;have h0n:(0:Int)<(n:Int):=ag;obtain⟨b,o,rfl,Jf,hcell⟩:=Hr.cells ag;have rj:=hcell j qB;have r0:=hcell 0 ag;have tN:=wH _ (Hr.nm j qB).1.one;have tS:=wH _ (Hr.sz j qB).1.one;have tC:=wH _ (Hr.cl j qB).one;unfold Me at rj r0;obtain⟨p0,p1,p2,p3,p4,p5,p6⟩:=Eg rj;obtain⟨q0,q1,q2,q3,q4,q5,q6⟩:=Eg r0;simp only[fO,fF]at q0 q1 q2 q3 q4 q5 q6;have b1:Below wr.heap.size wr (wr.alloc (.cells (Me (sh j) (vN j) (vS j) (vC j)).toArray 41)):=(aO _ _).alloc (ay _) _;have cn:=DR wr (Me (sh j) (vN j) (vS j) (vC j)) 41;have H1:=Hr.below b1.drew (ay _);have k1:=ag5 (sh 0) (sh j) (vN 0) (vS 0) (vC 0) (vN j) (vS j) (vC j) _ (H1.nm 0 ag).1 (H1.sz 0 ag).1 (H1.nm j qB).1 (H1.sz j qB).1 (H1.nm 0 ag).2 (H1.sz 0 ag).2;have q':∀{x:Nat}{u:ai},wr.cell? ⟨b,x,none⟩=some u->(wr.alloc (.cells (Me (sh j) (vN j) (vS j) (vC j)).toArray 41)).cell? ⟨b,x,none⟩=some u:=λ{x u} h=>(b1.cell (p:=⟨b,x,none⟩) Jf).trans h;replace q0:=q' q0;replace q1:=q' q1;replace q2:=q' q2;replace q3:=q' q3;replace q4:=q' q4;replace q5:=q' q5;replace q6:=q' q6;have c0:=cn 0;have c1:=cn 1;have c2:=cn 2;have c3:=cn 3;have c4:=cn 4;have c5:=cn 5;have c6:=cn 6;have b2:=hb.trans (b1.mono hb.size);simp only[Me,jg,jh]at c0 c1 c2 c3 c4 c5 c6 k1 q0 q1 q2 q3 q4 q5 q6 b2;clear H1 cn q' r0 rj hcell b1
   go_wp2_with fail
   generalize E8:wr.alloc (.cells #[.int .i64 ((sh j).k:Int),.int .i64 ((sh j).n:Int),.int .i64 ((sh j).i:Int),.int .i64 ((sh j).c:Int),vN j,vS j,vC j] 41)=w1 at*;clear E8 p0 p1 p2 p3 p4 p5 p6 tN tS tC;rcases ho:D7 (sh 0) (sh j)with _|_
   .rw[ho]at k1
    go_region_with (first|(go_at_call 48;(with_reducible refine k1.mono ?_);rintro r w2 ⟨rfl,rq⟩))
    all_goals
     go_wp2_with(first|(go_at_call 49;refine(AA _ _ 10 j aF aA _).mono ?_;rintro q w3 ⟨v,rfl,h1,h2⟩))
     go_ret;exact⟨(b2.drew.trans (rq.mono b2.size)).trans (h2.mono (bF b2.size rq.size)),10,v,.inl ⟨rfl,λhA=>aw0⟩,rfl,λh=>absurd h aB,λ_=>⟨j,h1⟩⟩
   .rw[ho]at k1
    go_region_with (first|(go_at_call 48;(with_reducible refine k1.mono ?_);rintro r w2 ⟨rfl,rq⟩))
    all_goals
     go_wp2
     go_roundw
     case rel=>exact⟨j+1,ag,aV,b2.drew.trans (rq.mono b2.size),λi hi=>by
      by_cases e:i=j
      .rw[e];exact ho
      .exact xg i ag⟩
     case measure=>simp[intOf];omega
  .obtain rfl:j=n:=ag;have E5:¬((j:Int)<(j:Int)):=ag;go_wp2
   go_loopw [5] (λvt w2=>∃x:Nat,(x+1<=j\/x=0)/\vt=.int .i64 ((x:Int)+1)/\Below w.heap.size w w2/\∀y,y<x->(sh (y+1)).i≠(sh y).i) (λvt _=>j+1-(intOf vt).toNat)
   case atStart=>exact⟨0,.inr rfl,rfl,hb,λy hy=>absurd hy ag⟩
   case round=>
    clear hb Hr;obtain⟨x,hx,rfl,hb,akS⟩:=hrel;have Hr:=H.below hb (ay _);by_cases qB:x+1<j
    .have akR:(x:Int)+1<(j:Int):=ag;have at1:(x:Int)<(j:Int):=ag;have ed:((x:Int)+1)-1=(x:Int):=ag;obtain⟨b,o,rfl,Jf,hcell⟩:=Hr.cells ag;have c1:=hcell (x+1) qB 2 _ rfl;have c0:=hcell x ag 2 _ rfl;clear hcell;rcases he:(((sh (x+1)).i:Int)==((sh x).i:Int))with _|_
     .go_wp2_with fail
      go_region;go_wp2
      go_roundw
      case rel=>exact⟨x+1,.inl ag,aV,hb.drew,λy hy=>by
       by_cases e:y=x
       .rw[e];intro h;rw[h]at he;simp at he
       .exact akS y ag⟩
      case measure=>simp[intOf];omega
     .go_wp2_with fail
      go_region
      go_wp2_with(first|(go_at_call 49;refine(AA 11 ((x:Int)+1) 11 (x+1) rfl ag _).mono ?_;rintro q w3 ⟨v,rfl,h1,h2⟩))
      go_ret;exact⟨hb.drew.trans (h2.mono hb.size),11,v,.inr (.inl ⟨rfl,xg,x,qB,by have:=eq_of_beq he;omega⟩),rfl,λh=>absurd h aB,λ_=>⟨_,h1⟩⟩
    .have E5:¬((x:Int)+1<(j:Int)):=ag;have hnd:¬Dup j sh:=λ⟨t,ht,e⟩=>akS t ag e;rcases gy j with h0|h0
     .subst h0
      go_wp2_with(first|(go_at_call 49;refine(AA _ _ 12 0 aF aF _).mono ?_;rintro q w3 ⟨v,rfl,h1,h2⟩))
      go_ret;exact⟨hb.trans (h2.mono hb.size),12,v,.inr (.inr (.inl ⟨rfl,xg,hnd,.inl rfl⟩)),rfl,λh=>absurd h aB,λ_=>⟨_,h1⟩⟩
     .have he:((j:Int)==0)=false:=aJ;have h0n:(0:Int)<(j:Int):=ag;obtain⟨b,o,rfl,Jf,hcell⟩:=Hr.cells h0;have c0:=hcell 0 h0 0 _ rfl;simp only[fO,fF]at c0;clear hcell;by_cases hk:(j:Int)<((sh 0).k:Int)
      .go_wp2_with(first|(go_at_call 49;refine(AA _ _ 12 j aF aA _).mono ?_;rintro q w3 ⟨v,rfl,h1,h2⟩))
       go_ret;exact⟨hb.trans (h2.mono hb.size),12,v,.inr (.inr (.inl ⟨rfl,xg,hnd,.inr ag⟩)),rfl,λh=>absurd h aB,λ_=>⟨_,h1⟩⟩
      .go_wp2;go_ret;exact⟨hb,0,_,.inr (.inr (.inr ⟨rfl,xg,hnd,h0,ag⟩)),rfl,λ_=>rfl,λh=>absurd rfl h⟩
def MP(z pl:Nat)(t:aj):Option (Nat×Nat):=
 if t.length<z then some (4,pl+t.length)
 else if sumOf (part t 0 (t.length-8))=le (part t (t.length-8) 8) 0 8 then none else some (6,pl+(t.length-8))
def zH(w:ah)(x:Option (Nat×Nat))(bt:aW)(tl ct:Nat)(q:Ending)(w':ah):Prop:=
 match x with
 |some e=>∃v,q=.returned (.tuple #[.slice none 0 0,v])/\sF w' 0 v e.1 e.2/\Below w.heap.size w w'
 |none=>q=.returned (.tuple #[.slice bt (tl-8) ct,.nilIface])/\∃j,w'=w.drewN j
section
variable (rb:Nat)(r:Rd)(bc:aW)(cl cc:Nat)(hC:r.vC=.slice bc cl cc)(hm:r.m<=1000000)(hc:r.c<=1000000)(hl:r.ln<=1000000)(LP:cl<=r.ln)(Nh:r.nx<=2)(t:aj)(bt:aW)(ct:Nat)(hT:r.vT=.slice bt t.length ct)(TQ:t.length<=1000000000)(uD:r.pl<=1000000000000)(w:ah)(h:xU w rb r)(hL:qP w r.vT (rP t))(uX:LQ w)
include hC hm hc hl LP Nh hT TQ uD h hL uX in
theorem J4:
  Calls prog 131 #[.pointer (some ⟨rb,0,none⟩)] w λq w'=>zH w (MP (yM r.nx r.c r.m r.ln cl) r.pl t) bt t.length ct q w':=by
 have hz8:8<=yM r.nx r.c r.m r.ln cl:=by
  unfold yM;split
  .omega
  .split
   .omega
   .split
    .omega
    .omega
 have KY:=X_ rb r bc cl cc hC hm hc hl LP ag bt t.length ct hT w h;have KN:=ab3 rb r bc cl cc hC hm hc hl LP ag bt t.length ct hT TQ uD w h;obtain⟨z,ez⟩:∃z,yM r.nx r.c r.m r.ln cl=z:=⟨_,rfl⟩;simp only[ez]at KY KN hz8⊢;have Z4:w.cell? ⟨rb,12,none⟩=some (.slice bt t.length ct):=avF;have TT:w.cell? ⟨rb,11,none⟩=some (.int .i64 (r.pl:Int)):=ql.cell h rfl;obtain⟨pl,Wq⟩:∃pl,r.pl=pl:=⟨_,rfl⟩;rw[Wq]at TT uD KN⊢;rcases bK t.length z with q|q
 .have HP:Hid (MP z pl t=some (4,pl+t.length)):=ax q;have K:=KN q;clear KY KN h hC hT hL;go_enter func131,ntmps131
  go_wp2_with(first|(go_at_call 136;refine K.mono ?_;rintro q w2 ⟨v,rfl,g1,g2⟩;obtain⟨ty,x,rfl⟩:=g1.iface))
  go_ret2;unfold zH;rw[HP.out];exact⟨_,rfl,g1,g2⟩
 .have K:=KY q
  obtain⟨b,off,eb,hby⟩:∃b off,bt=some ⟨b,off,none⟩/\xM w b off t:=by obtain⟨ba,cap,e1,e2,e3⟩:=hL;rw[hT,ru]at e1;cases e1;obtain⟨b,off,e4,_⟩:=e3 0 _ (wF ag);refine⟨b,off,e4,λi hi=>?_⟩;obtain⟨b',akN,e5,e6⟩:=e3 i _ (wF hi);rw[e4]at e5;cases e5;exact e6
  subst eb;obtain⟨en,een⟩:∃en,t.length=en+8:=⟨t.length-8,ag⟩
  have uF:t.length<=ct:=by obtain⟨ba,cap,e1,e2,e3⟩:=hL;rw[hT,ru]at e1;cases e1;rw[ru]at e2;exact e2
  have yQ:xM w b off (part t 0 en):=by have:=hby.part (a:=0) (n:=en) ag;exact this
  have zJ:xM w b (off+en) (part t en 8):=hby.part ag;have e1:(part t 0 en).length=en:=qF ag;have e2:(part t en 8).length=8:=qF ag;have K1:=λn cap=>agu b off cap (part t 0 en) ag (w.drewN n) yQ (uX.heap rfl)
  have K2:=λn cap=>xe b (off+en) 8 cap (part t en 8) e2 ag (w.drewN n) zJ
  rw[e1]at K1
  have hS:MP z pl t=if sumOf (part t 0 en)=le (part t en 8) 0 8 then none else some (6,pl+en):=by unfold MP;rw[au ag,een,iK]
  have Ai:=Vy (part t 0 en);have Gn:le (part t en 8) 0 8<2^64:=by have:=IZ (part t en 8) 8 0;simpa using this
  obtain⟨s1,LZ⟩:∃s1,sumOf (part t 0 en)=s1:=⟨_,rfl⟩;obtain⟨s2,es2⟩:∃s2,le (part t en 8) 0 8=s2:=⟨_,rfl⟩;rw[LZ,es2]at hS;simp only[LZ]at K1 Ai;simp only[es2]at K2 Gn;have HS:Hid (MP z pl t=if s1=s2 then none else some (6,pl+en)):=hS;rw[een]at Z4 uF TQ⊢;clear KY KN h hC hT hL hS LZ es2 e1 e2 yQ zJ hby een;by_cases qs:s1=s2
  .have HP:Hid (MP z pl t=none):=by rw[HS.out,ax qs];exact rfl
   subst qs;clear HS;go_enter func131,ntmps131
   go_wp2_with(first|(go_at_call 136;refine K.mono ?_;rintro q w2 ⟨rfl,j,xI⟩;obtain rfl:=xI.symm))
   go_big_quiet (first|(go_at_call 138;exact(K1 _ _).mono (λ_ _ h=>⟨h.1,_,h.2⟩))|(go_at_call 139;exact(K2 _ _).mono (λ_ _ h=>⟨h.1,_,h.2⟩)))
   go_wp2;go_ret2;unfold zH;rw[HP.out];exact⟨rfl,_,rfl⟩
  .have HP:Hid (MP z pl t=some (6,pl+en)):=by rw[HS.out,au qs];exact rfl
   have q':((s1:Int)==(s2:Int))=false:=aJ;have q2:((s1:Int) != (s2:Int))=true:=aJ;have RU:IntKind.i64.wrap ((pl:Int)+(en:Int))=(pl:Int)+(en:Int):=dH _ ag;clear HS;go_enter func131,ntmps131
   go_wp2_with(first|(go_at_call 136;refine K.mono ?_;rintro q w2 ⟨rfl,j,xI⟩;obtain rfl:=xI.symm))
   go_big_quiet (first|(go_at_call 138;exact(K1 _ _).mono (λ_ _ h=>⟨h.1,_,h.2⟩))|(go_at_call 139;exact(K2 _ _).mono (λ_ _ h=>⟨h.1,_,h.2⟩)))
   go_wp2_with(first|(go_at_call 49;refine(AA _ _ 6 (pl+en) aF aA _).mono ?_;rintro q w2 ⟨v,rfl,g1,g2⟩))
   go_ret2;unfold zH;rw[HP.out];exact⟨_,rfl,g1,⟨g2.os,g2.tape,g2.output,g2.size,g2.block⟩⟩
end
theorem Po{P:aP}{o:Oper}{a:Act}{w:ah}{K K':Act->Prop}(hk:∀a,K a->K' a)(h:o.quiet P a (λw'=>w'=w) K):o.still P a w K':=by
 obtain⟨v,h1,h2⟩:=h;have h3:=h1 w rfl;unfold Oper.quietAt at h3;unfold Oper.still;generalize(execOp a.eval o).run P w=R at h3;unfold Oper.quietUpon at h3;unfold Oper.stillUpon;split at h3
 .exact⟨h3.1,by rw[h3.2];exact hk _ h2⟩
 .exact⟨h3.1,by rw[<-h3.2];exact hk _ h2⟩
 .exact⟨h3.1,v,h3.2,hk _ h2⟩
 .exact h3.elim
theorem EH{P:aP}{ops:Array Oper}{w:ah}{Q:Act->Prop}:∀(l:List Oper)(a:Act),wpQuiet P ops (λw'=>w'=w) Q l a->wpStill P ops w Q l a
 |[],_,h=>h
 |o::rest,a,h=>by
  unfold wpQuiet at h;unfold wpStill;split
  .rename_i hw;rw[ax hw]at h;exact Po (λa'=>EH rest a') h
  .rename_i hw;rw[au hw]at h;exact EH rest _ h
theorem CE{P:aP}{id:Nat}{Q:Exit->Act->ah->Prop}{a:Act}{w:ah}{l:List Oper}(n:Nat)(hm:P.follows .mixedOrders=true)(hB:Region.lexTailB .any l.toArray n=true)
  (h:wpQuiet P l.toArray (λw'=>w'=w.drew) (λa'=>wpList P l.toArray Q (l.drop n) a' w.drew) (l.take n) a):(Code.region id l.toArray true).wp P Q a w:=
 uA n hm hB (EH _ _ h)
end Go.Proofs.Y
namespace Go.Proofs.Y
open Go.Proofs.Tryz
def At(Z:aj)(a:Nat)(t:aj):Prop:=a+t.length<=Z.length/\∀i,i<t.length->sV Z (a+i)=sV t i
theorem At.more{Z t:aj}{a:Nat}(h:At Z a t)(x:aj):At (Z++x) a t:=by refine⟨by simp;have:=h.1;omega,λi hi=>?_⟩;rw[<-h.2 i hi];have:=h.1;simp only[sV,bG];rw[ig ag]
theorem amL{p q:aj}(hl:p.length=q.length)(h:∀i,i<p.length->sV p i=sV q i):p=q:=by apply pF hl;intro i h1 h2;have:=h i h1;simp only[sV,bG,bQ h1,bQ h2,bf]at this;exact auF.1 this
theorem At.num{Z t:aj}{a:Nat}(h:At Z a t):∀n j,j+n<=t.length->le Z (a+j) n=le t j n
 |0,_,_=>rfl
 |n+1,j,hj=>by show sV Z (a+j)+256*le Z (a+j+1) n=sV t j+256*le t (j+1) n;rw[h.2 j ag,dO,At.num h n (j+1) ag]
theorem At.cut{Z t:aj}{a:Nat}(h:At Z a t){j n:Nat}(hn:j+n<=t.length):part Z (a+j) n=part t j n:=by
 have:=h.1;apply amL
 .rw[qF ag,qF hn]
 .intro i hi;rw[qF ag]at hi;rw[uV hi,uV hi,dO,h.2 (j+i) ag]
theorem At.YJ(t:aj){j n:Nat}(hn:j+n<=t.length):At t j (part t j n):=by refine⟨by rw[qF hn];exact hn,λi hi=>?_⟩;rw[qF hn]at hi;rw[uV hi]
theorem At.trans{Z t u:aj}{a b:Nat}(h:At Z a t)(k:At t b u):At Z (a+b) u:=by have h1:=h.1;have h2:=k.1;refine⟨ag,λi hi=>?_⟩;rw[dO,h.2 (b+i) ag,k.2 i hi]
theorem ak9{t:aj}{j n:Nat}(hn:j+n<=t.length):le (part t j n) 0 n=le t j n:=by have h:=(At.YJ t hn).num n 0 (by rw[qF hn];omega);rw[<-h];rfl
theorem Ji(c:UInt8)(l:aj)(i:Nat):sV (c::l) (i+1)=sV l i:=by simp[sV]
theorem ZM(c:UInt8)(l:aj):∀n a,le (c::l) (a+1) n=le l a n
 |0,_=>rfl
 |n+1,a=>by show sV (c::l) (a+1)+256*le (c::l) (a+1+1) n=sV l a+256*le l (a+1) n;rw[Ji,ZM c l n (a+1)]
theorem ajW:∀n v,le (FI n v) 0 n=v%256^n
 |0,v=>by simp[le,Nat.mod_one]
 |n+1,v=>by
  show sV (UInt8.ofNat (v%256)::FI n (v/256)) 0+256*le (UInt8.ofNat (v%256)::FI n (v/256)) (0+1) n=_;rw[ZM,ajW n (v/256)]
  have:sV (UInt8.ofNat (v%256)::FI n (v/256)) 0=v%256:=by simp[sV]
  rw[this,jH,fQ (256^n),Nat.mod_mul]
theorem acG:∀(p:aj),FI p.length (le p 0 p.length)=p
 |[]=>rfl
 |c::p=>by
  have h:le (c::p) 0 (p.length+1)=c.toNat+256*le p 0 p.length:=by show sV (c::p) 0+256*le (c::p) (0+1) p.length=_;rw[ZM];rfl
  have hc:=mY c;show UInt8.ofNat (le (c::p) 0 (p.length+1)%256)::FI p.length (le (c::p) 0 (p.length+1)/256)=_;rw[h,show(c.toNat+256*le p 0 p.length)%256=c.toNat by omega,show(c.toNat+256*le p 0 p.length)/256=le p 0 p.length by omega,acG p];simp
theorem apb{p:aj}{s:Nat}(hp:p.length=8)(hs:s<2^64):p=FI 8 s↔s=le p 0 8:=by
 constructor
 .intro h;rw[h,ajW,dB (by simpa using hs)]
 .intro h;have:=acG p;rw[hp]at this;rw[h,this]
theorem At.seal{Z t:aj}{a n:Nat}(h:At Z a t)(ht:t.length=n+8):sS Z a n=if sumOf (part t 0 n)=le (part t n 8) 0 8 then none else some (6,a+n):=by
 have h1:=h.1;unfold sS;rw[au ag,h.cut (j:=n) (n:=8) ag];have h2:=h.cut (j:=0) (n:=n) ag;rw[fF]at h2;rw[h2];have:=apb (p:=part t n 8) (s:=sumOf (part t 0 n)) (qF ag) (Vy _);by_cases q:part t n 8=FI 8 (sumOf (part t 0 n))
 .rw[ax q,ax (this.1 q)]
 .rw[au q,au (λx=>q (this.2 x))]
theorem ad1{Z:aj}{a n:Nat}(h:Z.length<a+n+8):sS Z a n=some (4,Z.length):=by unfold sS;rw[ax h]
theorem Yb(Z:aj):∀(ws:aj)(a i:Nat),i<ws.length->a+i<Z.length->(∀j,j<i->sV Z (a+j)=(ws.getD j 0).toNat)->sV Z (a+i)≠(ws.getD i 0).toNat->uS Z a ws=some (5,a+i)
 |[],_,_,h,_,_,_=>by simp at h
 |c::ws,a,0,_,h2,_,h4=>by unfold uS;rw[au ag,au (by simpa using h4)];rfl
 |c::ws,a,i+1,h1,h2,h3,h4=>by
  have h0:=h3 0 ag;unfold uS;rw[au ag,ax (by simpa using h0)];rw[Yb Z ws (a+1) i iD ag (λj hj=>?_) ?_,show a+1+i=a+(i+1)by omega]
  .rw[show a+1+i=a+(i+1)by omega];simpa using h4
  .exact ayH
theorem Yc(Z:aj):∀(ws:aj)(a:Nat),(∀j,j<ws.length->a+j<Z.length/\sV Z (a+j)=(ws.getD j 0).toNat)->uS Z a ws=none
 |[],_,_=>rfl
 |c::ws,a,h=>by have h0:=h 0 aA;unfold uS;rw[au ag,ax (by simpa using h0.2)];refine Yc Z ws (a+1) (λj hj=>?_);have:=h (j+1) iC;rw[show a+1+j=a+(j+1)by omega];exact⟨this.1,by rw[this.2];simp⟩
theorem Vz(Z:aj):∀(ws:aj)(a d:Nat),d<ws.length->Z.length=a+d->(∀j,j<d->sV Z (a+j)=(ws.getD j 0).toNat)->uS Z a ws=some (4,Z.length)
 |[],_,_,h,_,_=>by simp at h
 |c::ws,a,0,_,h2,_=>by unfold uS;rw[ax ag]
 |c::ws,a,d+1,h1,h2,h3=>by have h0:=h3 0 ag;unfold uS;rw[au ag,ax (by simpa using h0)];refine Vz Z ws (a+1) d iD ag (λj hj=>?_);exact ayH
theorem WU{l ws:aj}{c:Nat}:EG l ws=some c↔c<min ws.length l.length/\(∀i,i<c->sV l i=(ws.getD i 0).toNat)/\sV l c≠(ws.getD c 0).toNat:=by
 unfold EG;rw[pq];constructor
 .rintro⟨h1,h2,h3⟩;exact⟨jE,λi hi=>by simpa using h3 i hi,iD⟩
 .rintro⟨h1,h2,h3⟩;exact⟨by simpa using h3,iD,λi hi=>by simpa using h2 i hi⟩
theorem MQ{l ws:aj}:EG l ws=none↔∀i,i<min ws.length l.length->sV l i=(ws.getD i 0).toNat:=by
 unfold EG;rw[pz];constructor
 .intro h i hi;have:=h i lg;exact axb
 .intro h i hi;have:=h i lg;exact axb
theorem At.ab4{Z t ws:aj}{a i:Nat}(h:At Z a t)(hb:EG t ws=some i):uS Z a ws=some (5,a+i):=by
 obtain⟨h1,h2,h3⟩:=WU.1 hb;have h4:=h.1;refine Yb Z ws a i ag ag (λj hj=>?_) ?_
 .rw[h.2 j ag];exact h2 j hj
 .rw[h.2 i ag];exact h3
theorem At.Pq{Z t ws:aj}{a:Nat}(h:At Z a t)(hb:EG t ws=none)(hl:ws.length<=t.length):uS Z a ws=none:=by have h1:=MQ.1 hb;have h4:=h.1;refine Yc Z ws a (λj hj=>⟨ag,?_⟩);rw[h.2 j ag];exact h1 j ag
theorem At.Yd{Z t ws:aj}{a:Nat}(h:At Z a t)(hb:EG t ws=none)(hl:t.length<ws.length)(hz:Z.length=a+t.length):uS Z a ws=some (4,Z.length):=by have h1:=MQ.1 hb;refine Vz Z ws a t.length hl hz (λj hj=>?_);rw[h.2 j hj];exact h1 j ag
def zI:List (Nat×Nat×Int×Int)->Option Nat
 |[]=>none
 |(p,v,lo,hi)::r=>if(v:Int)<lo\/hi<(v:Int)then some p else zI r
theorem aha(a b c:Option (Nat×Nat)):ug (ug a b) c=ug a (ug b c):=by cases a<;>rfl
theorem yN(p v:Nat)(lo hi:Int)(r:List (Nat×Nat×Int×Int))(ok:Bool)(h:ok=true↔lo<=(v:Int)/\(v:Int)<=hi):(zI ((p,v,lo,hi)::r)).map (λx=>(1,x))=ug (qJ ok 1 p) ((zI r).map (λx=>(1,x))):=by
 cases ok with
 |true=>
  have:=h.1 rfl;show(if(v:Int)<lo\/hi<(v:Int)then some p else zI r).map (λx=>(1,x))=_;rw[au ag];rfl
 |false=>
  have:¬(lo<=(v:Int)/\(v:Int)<=hi):=λx=>by have:=h.2 x;cases this
  show(if(v:Int)<lo\/hi<(v:Int)then some p else zI r).map (λx=>(1,x))=_;rw[ax ag];rfl
theorem ad3(k n i z c m ln zz:Nat):Md none k n i z c m ln zz=(zI [(6,k,1,128),(7,n,(k:Int),128),(8,i,0,(n:Int)-1),(9,z,0,0),(10,c,1,65536),(14,m,4,300000),(18,ln,0,65536),(22,zz,0,0)]).map (λx=>(1,x)):=by
 rw[yN _ _ _ _ _ (decide (1<=k/\k<=128)) aJ,yN _ _ _ _ _ (decide (k<=n/\n<=128)) aJ,yN _ _ _ _ _ (decide (i<n)) aJ,yN _ _ _ _ _ (decide (z=0)) aA,yN _ _ _ _ _ (decide (1<=c/\c<=65536)) aJ,yN _ _ _ _ _ (decide (4<=m/\m<=300000)) aJ,yN _ _ _ _ _ (decide (ln<=65536)) aJ,yN _ _ _ _ _ (decide (zz=0)) aA];unfold Md;simp only[aha];have:(Option.map (λx=>(1,x)) (zI []))=(none:Option (Nat×Nat)):=rfl;rw[this];have o:∀r:Option (Nat×Nat),ug r none=r:=λr=>by cases r<;>rfl
 rw[o];rfl
def yh(u:aj)(a:Nat)(ns:List (aj))(zs:aC):Except Nat (aj×Nat):=
 if u.length<a+6\/le u a 2<1\/255<le u a 2\/u.length<a+6+le u a 2 then .error a
 else if 0<ns.length/\uh (part u (a+2) (le u a 2)) (ns.getD (ns.length-1) [])=true then .error (a+2)
 else if 65536<zs.sum+le u (a+2+le u a 2) 4 then .error (a+2+le u a 2)
 else .ok (part u (a+2) (le u a 2),le u (a+2+le u a 2) 4)
def BU(u:aj):Nat->Nat->List (aj)->aC->Except Nat (List (aj)×aC)
 |0,a,ns,zs=>if a<u.length then .error a else .ok (ns,zs)
 |c+1,a,ns,zs=>match yh u a ns zs with
  | .error p=>.error p
  | .ok (nm,z)=>BU u c (a+(6+nm.length)) (ns++[nm]) (zs++[z])
def CJ(u:aj):Except Nat (List (aj)×aC):=if 1000<le u 0 4 then .error 0 else BU u (le u 0 4) 4 [] []
def upE(b:Nat)(r:Except Nat (List (aj)×aC)):Except (Nat×Nat) (List (aj)×aC):=
 match r with
 | .error p=>.error (7,b+p)
 | .ok x=>.ok x
theorem Nl{Z u:aj}{m:Nat}(h:At Z 32 u)(hu:u.length=m):∀(c a:Nat)(ns:List (aj))(zs:aC),a<=m->zs.sum<=65536->Wl (32+m) (yC Z (32+m) c (32+a) ns zs)=upE 32 (BU u c a ns zs)
 |0,a,ns,zs,ha,_=>by
  unfold yC BU;simp only[Wl];by_cases q:a<u.length
  .rw[ax q,au ag];rfl
  .rw[au q,ax ag];rfl
 |c+1,a,ns,zs,ha,hz=>by
  unfold yC BU;by_cases q0:u.length<a+6
  .have hb:yh u a ns zs=.error a:=by unfold yh;rw[ax (.inl q0)]
   rw[hb];by_cases q1:32+m<32+a+2
   .rw[ax q1];rfl
   .rw[au q1,ax (by right;right;omega)];rfl
  .have e2:le Z (32+a) 2=le u a 2:=h.num 2 a ag;rw[au ag,e2];by_cases q1:le u a 2<1\/255<le u a 2\/u.length<a+6+le u a 2
   .have hb:yh u a ns zs=.error a:=by unfold yh;rw[ax (.inr q1)]
    rw[hb,ax ag];rfl
   .have e3:part Z (32+a+2) (le u a 2)=part u (a+2) (le u a 2):=by rw[dO];exact h.cut ag
    have e4:le Z (32+a+2+le u a 2) 4=le u (a+2+le u a 2) 4:=by rw[show 32+a+2+le u a 2=32+(a+2+le u a 2)by omega];exact h.num 4 _ ag
    rw[au ag,e3,e4];by_cases q2:0<ns.length/\uh (part u (a+2) (le u a 2)) (ns.getD (ns.length-1) [])=true
    .have hb:yh u a ns zs=.error (a+2):=by unfold yh;rw[au ag,ax q2]
     rw[hb,ax q2];simp only[Wl,upE];rw[dO]
    .rw[au q2]
     have hs:65536<rZ (zs++[le u (a+2+le u a 2) 4])↔65536<zs.sum+le u (a+2+le u a 2) 4:=by unfold rZ;simp only[jd,nD,auQ,fF];split<;>omega
     by_cases q3:65536<zs.sum+le u (a+2+le u a 2) 4
     .have hb:yh u a ns zs=.error (a+2+le u a 2):=by unfold yh;rw[au ag,au q2,ax q3]
      rw[hb,ax (hs.2 q3)];simp only[Wl,upE];rw[show 32+a+2+le u a 2=32+(a+2+le u a 2)by omega]
     .have hb:yh u a ns zs=.ok (part u (a+2) (le u a 2),le u (a+2+le u a 2) 4):=by unfold yh;rw[au ag,au q2,au q3]
      rw[hb,au (λx=>q3 (hs.1 x))];simp only;have hl:(part u (a+2) (le u a 2)).length=le u a 2:=qF ag;rw[show 32+a+6+le u a 2=32+(a+(6+(part u (a+2) (le u a 2)).length))by rw[hl];omega];exact Nl h hu c _ _ _ nY aJ

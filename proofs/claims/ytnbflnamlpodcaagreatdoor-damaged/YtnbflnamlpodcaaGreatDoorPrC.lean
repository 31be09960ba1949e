import Derived.Test.YtnbflnamlpodcaaGreatDoorScanG
import Derived.Stop.Asserts
import Derived.Handy
set_option maxHeartbeats 4000000
set_option maxRecDepth 100000
namespace Go.Proofs.Y
open Go.Proofs.Tryz
open Go.RowKit Go.Deep
theorem aqV:(prog.info? 9).map (λi=>(i.zero,i.size,i.bytes))=some (some (.string ⟨#[]⟩),1,16):=ag
theorem aqW:(prog.info? 3).map (λi=>(i.zero,i.size,i.bytes))=some (some (.int .i64 0),1,8):=ag
def Dk(l:List (List UInt8)):List Value:=l.map λs=>Value.string ⟨s.toArray⟩
theorem ZK{l:List (List UInt8)}{j:Nat}(h:j<l.length):(Dk l)[j]?=some (.string ⟨(l.getD j []).toArray⟩):=by simp[Dk,a_ h]
def uZ(a b:List UInt8):Bool:=Op.bytesLess a b||a==b
def IV(l:List UInt8)(en:Nat):Nat->Nat->List (List UInt8)->List Nat->Except (Nat×Nat) (List (List UInt8)×List Nat×Nat)
 |0,a,ns,zs=>.ok (ns,zs,a)
 |c+1,a,ns,zs=>
  if en<a+2 then .error (7,a)
  else if le l a 2<1\/255<le l a 2\/en<a+6+le l a 2 then .error (7,a)
  else if 0<ns.length/\uZ (part l (a+2) (le l a 2)) (ns.getD (ns.length-1) [])=true then .error (7,a+2)
  else if 65536<CV (zs++[le l (a+2+le l a 2) 4])then .error (7,a+2+le l a 2)
  else IV l en c (a+6+le l a 2) (ns++[part l (a+2) (le l a 2)]) (zs++[le l (a+2+le l a 2) 4])
structure ShX(w:World)(xb:Nat)(k n i c:Nat)(vN vS vC:Value):Prop where
 row:qf w xb (yQ k n i c vN vS vC) 55
theorem vI{w w':World}{base e size n:Nat}{v:Value}{xs:List Value}(h:w.ownsRow base e size v n xs)(hh:∀g,v.ownBlock=some g->w'.heap[g]?=w.heap[g]?):w'.ownsRow base e size v n xs:=by
 refine⟨h.1,?_⟩;rcases h.2 with x|⟨g,cap,cur,rfl,h1,h2,h3⟩
 .exact .inl x
 .exact .inr ⟨g,cap,cur,rfl,h1,(hh g rfl).trans h2,h3⟩
def Qq(a b:Value):Prop:=∀g,a.ownBlock=some g->b.ownBlock≠some g
theorem Qr{w:World}{bb bo:Nat}{l:List UInt8}(h:CS w bb bo l)(k:Nat)(hk:l.length=k)(cap:Nat):(convert 34 9 (.slice (some ⟨bb,bo,none⟩) k cap)).run prog w=.ok (.string ⟨l.toArray⟩) w:=by subst hk;refine run_convert_bytes_back w 34 9 5 ⟨bb,bo,none⟩ cap l underlying34 underlying5 underlying9 (λj hj=>?_);rw[G6,h j hj];simp[tJ,a_ hj]
def afA(en:Nat)(r:Except (Nat×Nat) (List (List UInt8)×List Nat×Nat)):Except (Nat×Nat) (List (List UInt8)×List Nat):=
 match r with
 | .error e=>.error e
 | .ok (ns,zs,a)=>if a=en then .ok (ns,zs)else .error (7,a)
def Ed(l:List UInt8)(m:Nat):Except (Nat×Nat) (List (List UInt8)×List Nat):=
 match zW l 32 m with
 |some e=>.error e
 |none=>
  if 1000<le l 32 4 then .error (7,32)
  else afA (32+m) (IV l (32+m) (le l 32 4) 36 [] [])
theorem afv{l:List UInt8}{a n:Nat}(h:zW l a n=none):a+n+8<=l.length:=by
 unfold zW at h;split at h
 .cases h
 .omega
section
end
theorem afe(x:ByteArray):∀u∈[Value.string x],u.oneCell'=true:=pR
theorem aff(x:Int):∀u∈[Value.int .i64 x],u.oneCell'=true:=pR
theorem agL(l:List (List UInt8))(s:List UInt8):Dk l++[.string ⟨s.toArray⟩]=Dk (l++[s]):=by simp[Dk]
theorem agM(l:List Nat)(z:Nat):zF l++[.int .i64 (z:Int)]=zF (l++[z]):=by simp[zF]
theorem Bz{w:World}{base e n:Nat}{v:Value}{xs:List Value}(h:w.ownsRow base e 1 v n xs)(hn:0<n):∃g cap,v=.slice (some ⟨g,0,none⟩) n cap:=by
 rcases h.2 with⟨_,h0⟩|⟨g,c,_,h1,_⟩
 .omega
 .exact⟨g,c,h1⟩
theorem Rq(w:World)(b:Nat)(x:Value)(t:TypeId)(hb:b=w.heap.size):∀j u,[x][j]?=some u->(w.alloc (.cells #[x] t)).cell? ((⟨b,0,none⟩:Addr).add j)=some u:=by subst hb;exact cell_one_new w x t
section
end
def GK(en:Int)(a m:Nat):List UInt8->Option (Nat×Nat)
 |[]=>none
 |b::p=>if(m:Int)<en\/b.toNat=0 then GK en (a+1) (m+1) p else some (8,a)
theorem agN(en:Int)(b:UInt8):∀(p:List UInt8)(a m:Nat),GK en a m (p++[b])=Ph (GK en a m p) (yZ (decide (((m+p.length:Nat):Int)<en\/b.toNat=0)) 8 (a+p.length))
 |[],a,m=>by
  by_cases h:(m:Int)<en\/b.toNat=0
  .simp[GK,Ph,yZ,h]
  .simp[GK,Ph,yZ,h]
 |c::p,a,m=>by
  simp only[aV,GK,bQ];by_cases h:(m:Int)<en\/c.toNat=0
  .rw[aj h,aj h,agN en b p (a+1) (m+1)];rw[show m+1+p.length=m+(p.length+1)by omega,show a+1+p.length=a+(p.length+1)by omega]
  .rw[ah h,ah h];rfl
theorem Xo(en:Int):∀(p:List UInt8)(a m:Nat),VC (GK en a m p)
 |[],_,_=>FZ
 |b::p,a,m=>by
  unfold GK;split
  .exact Xo en p _ _
  .exact Ea au
def yH(l:List UInt8)(low:Bool)(ch ln:Nat)(en:Int):Nat->Nat->List UInt8->Except (Nat×Nat) (List UInt8×Nat)
 |0,a,qy=>.ok (qy,a)
 |f+1,a,qy=>
  if ln<=qy.length then .ok (qy,a)
  else match zW l a (min (ln-qy.length) ch)with
   |some e=>.error e
   |none=>match(if low then GK en a qy.length (part l a (min (ln-qy.length) ch))else none)with
    |some e=>.error e
    |none=>yH l low ch ln en f (a+min (ln-qy.length) ch+8) (qy++part l a (min (ln-qy.length) ch))
section
variable (sb xb bb bo cap:Nat)(hbs:bb≠sb)(hbx:bb≠xb)(hxs:xb≠sb)(l:List UInt8)(hl:l.length<2^60)(BD:l.length<=cap)(k n i ch at0:Nat)(JR:1<=k)(O3:k<=128)(hi:i<128)(vN vS:Value)(zs:List Nat)(hz:∀j,zs.getD j 0<2^63)(hzl:zs.length<2^60)
  (ln:Nat) (O0:ln<=65537) (w:World) (hx:ShX w xb k n i ch vN vS (.slice none 0 0)) (hS:asb w vS (zF zs)) (hb:CS w bb bo l) (ZT:bb<w.heap.size)
theorem uH{w:World}{base e n:Nat}{v:Value}{xs:List Value}(h:w.ownsRow base e 1 v n xs):∃ba cap,v=.slice ba n cap:=by
 rcases h.2 with⟨h1,h0⟩|⟨g,c,_,h1,_⟩
 .exact⟨none,0,by rw[h1,h0]⟩
 .exact⟨_,c,h1⟩
end
def uQ:List UInt8:=[68,79,78,69]
structure xg where
 k:Nat
 n:Nat
 i:Nat
 c:Nat
 names:List (List UInt8)
 sizes:List Nat
 qy:List UInt8
def FW(l:List UInt8):Option (Nat×Nat):=
 match Ph (CU l 0 Ba) (zW l 0 24)with
 |some x=>some x
 |none=>TP none (le l 6 1) (le l 7 1) (le l 8 1) (le l 9 1) (le l 10 4) (le l 14 4) (le l 18 4) (le l 22 2)
def qP(l:List UInt8):Except (Nat×Nat) xg:=
 match FW l with
 |some e=>.error e
 |none=>
  match Ed l (le l 14 4)with
  | .error e=>.error e
  | .ok (ns,zs)=>
    if le l 18 4=DZ (le l 6 1) zs then
     match yH l (decide (le l 8 1<le l 6 1)) (le l 10 4) (le l 18 4) ((CV zs:Int)-((le l 8 1*DZ (le l 6 1) zs:Nat):Int)) (le l 18 4) (32+le l 14 4+8) []with
     | .error e=>.error e
     | .ok (qy,a)=>
       match Ph (CU l a uQ) (yZ (decide (l.length<=a+4)) 9 (a+4))with
       |some e=>.error e
       |none=>.ok ⟨le l 6 1,le l 7 1,le l 8 1,le l 10 4,ns,zs,qy⟩
    else .error (7,18)
theorem Md{k n i z c m ln zz:Nat}(h:TP none k n i z c m ln zz=none):1<=k/\k<=128/\k<=n/\n<=128/\i<n/\z=0/\1<=c/\c<=65536/\4<=m/\m<=300000/\ln<=65536/\zz=0:=by
 have key:∀{r:Option (Nat×Nat)}{ok:Bool}{x y:Nat},Ph r (yZ ok x y)=none->r=none/\ok=true:=by
  intro r ok x y h;cases r with
  |some _=>cases h
  |none=>cases ok with
   |true=>exact⟨rfl,rfl⟩
   |false=>cases h
 unfold TP at h;obtain⟨h,h8⟩:=key h;obtain⟨h,h7⟩:=key h;obtain⟨h,h6⟩:=key h;obtain⟨h,h5⟩:=key h;obtain⟨h,h4⟩:=key h;obtain⟨h,h3⟩:=key h;obtain⟨h,h2⟩:=key h;obtain⟨_,h1⟩:=key h;simp only[gY]at*;omega
def D5:Value:=.agg (yQ 0 0 0 0 (.slice none 0 0) (.slice none 0 0) (.slice none 0 0)).toArray
def PD(l:List UInt8)(w:World)(q:Ending)(w':World):Prop:=
 Below w.heap.size w w'/\
 match qP l with
 | .error e=>q=.returned (.tuple #[D5,.int .i64 (e.1:Int),.int .i64 (e.2:Int)])
 | .ok s=>∃vN vS vC,q=.returned (.tuple #[.agg (yQ s.k s.n s.i s.c vN vS vC).toArray,.int .i64 0,.int .i64 0])/\
   w'.ownsRow w.heap.size 9 1 vN s.names.length (Dk s.names)/\w'.ownsRow w.heap.size 3 1 vS s.sizes.length (zF s.sizes)/\w'.ownsRow w.heap.size 5 1 vC s.qy.length (r_ s.qy)
theorem AO{P:Program}{fn:Func}{p u t:Tmp}{ty:TypeId}(h:fn.results=#[.cell p ty,.tmp u,.tmp t])(tmps:Array Value)(w:World)(g:Nat)(et:TypeId)(cs:Array Value)(fr:Nat×Nat)(d:TypeDesc)
  (hp:tmps.getD p undef=.pointer (some ⟨g,0,none⟩)) (hg:w.heap[g]?=some (.cells cs et fr))
  (hu:P.underlying ty=some d) (hd:(match d with| .struct _| .array _ _=>true|_=>false)=true) (hi:(P.info? ty).map (·.size)=some cs.size):
  (results fn tmps).run P w=.ok (.tuple #[.agg cs,tmps.getD u undef,tmps.getD t undef]) w:=by
 have hp':tmps[p]?.getD undef=.pointer (some ⟨g,0,none⟩):=by simpa using hp
 exact axZ
def RV(s t:xg):Bool:=((s.k:Int)==(t.k:Int))&&((s.n:Int)==(t.n:Int))&&((s.c:Int)==(t.c:Int))&&decide (s.names=t.names)&&decide (s.sizes=t.sizes)
def VR(s:xg)(vN vS vC:Value):List Value:=[.int .i64 (s.k:Int),.int .i64 (s.n:Int),.int .i64 (s.i:Int),.int .i64 (s.c:Int),vN,vS,vC]
theorem agI(s t:xg)(vN vS vC Vj Vk FT:Value)(w:World)(hN:qR w vN (wO s.names))(hS:qR w vS (zF s.sizes))(hN':qR w Vj (wO t.names))(hS':qR w Vk (zF t.sizes))(hl:s.names.length<=1048576)(hl2:s.sizes.length<=1048576):
  Calls prog 63 #[.agg (VR s vN vS vC).toArray,.agg (VR t Vj Vk FT).toArray] w λr w'=>r=.returned (.bool (RV s t))/\Below w.heap.size w w':=by
 unfold VR;have b0:Below w.heap.size w (w.alloc (.cells #[.int .i64 (s.k:Int),.int .i64 (s.n:Int),.int .i64 (s.i:Int),.int .i64 (s.c:Int),vN,vS,vC] 55)):=(aA _ _).alloc (ak _) _;have b1:=b0.alloc b0.size (.cells #[.int .i64 (t.k:Int),.int .i64 (t.n:Int),.int .i64 (t.i:Int),.int .i64 (t.c:Int),Vj,Vk,FT] 55);have k1:=agO s.names t.names vN Vj _ (hN.below b1) (hN'.below b1) hl;have k2:=λm=>agP s.sizes t.sizes vS Vk _ ((hS.below b1).drewN m) ((hS'.below b1).drewN m) hl2
 go_enter func63,ntmps63;rcases h1:((s.k:Int)==(t.k:Int))with _|_
 .go_wp2;go_ret;exact⟨by rw[RV,h1];rfl,b1⟩
 rcases h2:((s.n:Int)==(t.n:Int))with _|_
 .go_wp2;go_ret;exact⟨by rw[RV,h1,h2];rfl,b1⟩
 rcases h3:((s.c:Int)==(t.c:Int))with _|_
 .go_wp2;go_ret;exact⟨by rw[RV,h1,h2,h3];rfl,b1⟩
 rcases h4:decide (s.names=t.names)with _|_
 .rw[h4]at k1
  go_wp2_with(first|(go_at_call 105;(with_reducible refine k1.mono ?_);rintro r w2 ⟨rfl,xG⟩;obtain⟨m,xG⟩:=xG;obtain rfl:=xG.symm))
  exact axt
 rw[h4]at k1
 go_wp2_with(first
  |(go_at_call 105;(with_reducible refine k1.mono ?_);rintro r w2 ⟨rfl,xG⟩;obtain⟨m,xG⟩:=xG;obtain rfl:=xG.symm)
  |(go_at_call 106;(with_reducible refine(k2 m).mono ?_);rintro r w3 ⟨rfl,Pv⟩;obtain⟨m',Pv⟩:=Pv;obtain rfl:=Pv.symm))
 exact axt
end Go.Proofs.Y
namespace Go.Proofs.Y
open Go.Proofs.Tryz
open Go.RowKit Go.Extern.Stop Go.Stop Go.Extern
def sG(w:World):Nat->Value->Nat->Nat->Prop
 |0,v,e,p=>∃b,v=.iface 90 (.pointer (some ⟨b,0,none⟩))/\qf w b [.int .i64 (e:Int),.int .i64 (p:Int)] 94
 |d+1,v,e,p=>∃b s c,v=.iface 137 (.pointer (some ⟨b,0,none⟩))/\qf w b [.string s,c] 139/\sG w d c e p
def wQ(w:World)(a:Addr):Prop:=w.cell? ⟨0,0,none⟩=some (.iface 247 (.pointer (some a)))
theorem ad4(v:Value)(w:World):(callFunc 101 #[.iface 247 v]).run prog w=.ok (.value (.iface 191 (.agg #[.pointer (some ⟨7,247,none⟩)]))) w:=ag
theorem Vl(w:World):(callFunc 186 #[.agg #[.pointer (some ⟨7,247,none⟩)]]).run prog w=.ok (.value (.bool true)) w:=ag
theorem apC:(prog.info? 247).map (·.comparable)=some true:=ag
theorem apD:(prog.info? 267).map (·.size)=some 1:=ag
theorem ad7(v:Value)(xT:TypeId)(w:World):(Instr.typeAssert (.iface 90 v) xT 213 true).run prog w=.ok (.tuple #[.iface 90 v,.bool true]) w:=run_typeAssert_hasB underlying213 ag v xT w
theorem Qs(v:Value)(xT:TypeId)(w:World):(Instr.typeAssert (.iface 90 v) xT 198 true).run prog w=.ok (.tuple #[.nilIface,.bool false]) w:=run_typeAssert_lacksB underlying198 ag ag v xT w
theorem Nc(v:Value)(xT:TypeId)(w:World):(Instr.typeAssert (.iface 90 v) xT 200 true).run prog w=.ok (.tuple #[.nilIface,.bool false]) w:=run_typeAssert_lacksB underlying200 ag ag v xT w
theorem anm(v:Value)(xT:TypeId)(w:World):(Instr.typeAssert (.iface 137 v) xT 213 true).run prog w=.ok (.tuple #[.nilIface,.bool false]) w:=run_typeAssert_lacksB underlying213 ag ag v xT w
theorem ED(v:Value)(xT:TypeId)(w:World):(Instr.typeAssert (.iface 137 v) xT 198 true).run prog w=.ok (.tuple #[.iface 137 v,.bool true]) w:=run_typeAssert_hasB underlying198 ag v xT w
theorem JL(b:Nat)(a:Addr)(e p:Nat)(w:World)(h:qf w b [.int .i64 (e:Int),.int .i64 (p:Int)] 94)(hE:wQ w a):
  Calls prog 178 #[.pointer (some ⟨b,0,none⟩),.iface 247 (.pointer (some a))] w λr w'=>r=.returned (.bool (decide (e=4)))/\w'=w:=by
 obtain⟨i,hi,asY⟩:=bT.1 apC;obtain⟨j,hj,hjs⟩:=bT.1 apD;have heq:=run_eql_iface_ptr_same (P:=prog) w a underlying59 underlying247 hi asY hj;have c0:=h.cell (i:=0) rfl;unfold wQ at hE;by_cases q:e=4
 .subst q;go_enter func178,ntmps178;exact awx
 .have q':((e:Int)==4)=false:=az;have HQ:Hid (decide (e=4)=false):=dP q;clear q;go_enter func178,ntmps178;go_wp2;go_ret;exact⟨Eb (by rw[HQ.out]),rfl⟩
theorem Bi(b:Nat)(s:ByteArray)(c:Value)(w:World)(h:qf w b [.string s,c] 139):
  Calls prog 180 #[.pointer (some ⟨b,0,none⟩)] w λr w'=>r=.returned c/\w'=w:=by
 have c1:=h.cell (i:=1) rfl;go_enter func180,ntmps180;exact awx
theorem is0(b:Nat)(a:Addr)(e p:Nat)(w:World)(h:qf w b [.int .i64 (e:Int),.int .i64 (p:Int)] 94)(hE:wQ w a):
  Calls prog 102 #[.iface 90 (.pointer (some ⟨b,0,none⟩)),.iface 247 (.pointer (some a)),.bool true] w λr w'=>r=.returned (.bool (decide (e=4)))/\w'=w:=by
 have K:=JL b a e p w h hE;have i1:=ad7;have i2:=Qs;have i3:=Nc;have hty:=run_eql_iface_types (P:=prog) 90 247 (.pointer (some ⟨b,0,none⟩)) (.pointer (some a)) underlying59 au w;cases q:decide (e=4)
 all_goals rw[q]at K
 all_goals
  go_enter func102,ntmps102;go_wp2;refine jW 1 ?_;rw[f_]
  go_wp2_with(first|(go_at_call 178;refine K.mono ?_;rintro r w' ⟨rfl,tH⟩;obtain rfl:=tH.symm))
  exact awE
theorem is1(b0 b:Nat)(s0:ByteArray)(a:Addr)(e p:Nat)(w:World)(h0:qf w b0 [.string s0,.iface 90 (.pointer (some ⟨b,0,none⟩))] 139)(h:qf w b [.int .i64 (e:Int),.int .i64 (p:Int)] 94)(hE:wQ w a):
  Calls prog 102 #[.iface 137 (.pointer (some ⟨b0,0,none⟩)),.iface 247 (.pointer (some a)),.bool true] w λr w'=>r=.returned (.bool (decide (e=4)))/\w'=w:=by
 have K:=JL b a e p w h hE;have K0:=Bi b0 s0 _ w h0;have i1:=ad7;have i2:=Qs;have i3:=Nc;have i4:=anm;have i5:=ED;have hty:=run_eql_iface_types (P:=prog) 90 247 (.pointer (some ⟨b,0,none⟩)) (.pointer (some a)) underlying59 au w;have asc:=run_eql_iface_types (P:=prog) 137 247 (.pointer (some ⟨b0,0,none⟩)) (.pointer (some a)) underlying59 au w;cases q:decide (e=4)
 all_goals rw[q]at K
 all_goals
  go_enter func102,ntmps102;go_wp2;refine jW 2 ?_;rw[f_]
  go_wp2_with(first|(go_at_call 178;refine K.mono ?_;rintro r w' ⟨rfl,tH⟩;obtain rfl:=tH.symm)|(go_at_call 180;with_reducible refine K0.mono ?_;rintro r w' ⟨rfl,tH⟩;obtain rfl:=tH.symm))
  rw[f_]
  go_wp2_with(first|(go_at_call 178;refine K.mono ?_;rintro r w' ⟨rfl,tH⟩;obtain rfl:=tH.symm)|(go_at_call 180;with_reducible refine K0.mono ?_;rintro r w' ⟨rfl,tH⟩;obtain rfl:=tH.symm))
  exact awE
theorem is2(b0 b1 b:Nat)(s0 s1:ByteArray)(a:Addr)(e p:Nat)(w:World)(h0:qf w b0 [.string s0,.iface 137 (.pointer (some ⟨b1,0,none⟩))] 139)(h1:qf w b1 [.string s1,.iface 90 (.pointer (some ⟨b,0,none⟩))] 139)(h:qf w b [.int .i64 (e:Int),.int .i64 (p:Int)] 94)(hE:wQ w a):
  Calls prog 102 #[.iface 137 (.pointer (some ⟨b0,0,none⟩)),.iface 247 (.pointer (some a)),.bool true] w λr w'=>r=.returned (.bool (decide (e=4)))/\w'=w:=by
 have K:=JL b a e p w h hE;have K0:=Bi b0 s0 _ w h0;have K1:=Bi b1 s1 _ w h1;have i1:=ad7;have i2:=Qs;have i3:=Nc;have i4:=anm;have i5:=ED;have hty:=run_eql_iface_types (P:=prog) 90 247 (.pointer (some ⟨b,0,none⟩)) (.pointer (some a)) underlying59 au w;have asc:=run_eql_iface_types (P:=prog) 137 247 (.pointer (some ⟨b0,0,none⟩)) (.pointer (some a)) underlying59 au w;have aty:=run_eql_iface_types (P:=prog) 137 247 (.pointer (some ⟨b1,0,none⟩)) (.pointer (some a)) underlying59 au w;cases q:decide (e=4)
 all_goals rw[q]at K
 all_goals
  go_enter func102,ntmps102;go_wp2;refine jW 3 ?_;rw[f_]
  go_wp2_with(first|(go_at_call 178;refine K.mono ?_;rintro r w' ⟨rfl,tH⟩;obtain rfl:=tH.symm)|(go_at_call 180;with_reducible refine K0.mono ?_;rintro r w' ⟨rfl,tH⟩;obtain rfl:=tH.symm)|(go_at_call 180;with_reducible refine K1.mono ?_;rintro r w' ⟨rfl,tH⟩;obtain rfl:=tH.symm))
  rw[f_]
  go_wp2_with(first|(go_at_call 178;refine K.mono ?_;rintro r w' ⟨rfl,tH⟩;obtain rfl:=tH.symm)|(go_at_call 180;with_reducible refine K0.mono ?_;rintro r w' ⟨rfl,tH⟩;obtain rfl:=tH.symm)|(go_at_call 180;with_reducible refine K1.mono ?_;rintro r w' ⟨rfl,tH⟩;obtain rfl:=tH.symm))
  rw[f_]
  go_wp2_with(first|(go_at_call 178;refine K.mono ?_;rintro r w' ⟨rfl,tH⟩;obtain rfl:=tH.symm)|(go_at_call 180;with_reducible refine K0.mono ?_;rintro r w' ⟨rfl,tH⟩;obtain rfl:=tH.symm)|(go_at_call 180;with_reducible refine K1.mono ?_;rintro r w' ⟨rfl,tH⟩;obtain rfl:=tH.symm))
  exact awE
theorem akT(d:Nat)(hd:d<=2)(v:Value)(a:Addr)(e p:Nat)(w:World)(h:sG w d v e p)(hE:wQ w a):
  Calls prog 102 #[v,.iface 247 (.pointer (some a)),.bool true] w λr w'=>r=.returned (.bool (decide (e=4)))/\w'=w:=by
 match d,hd,h with
 |0,_,⟨b,e1,h1⟩=>subst e1;exact is0 b a e p w h1 hE
 |1,_,⟨b0,s0,c,e1,h1,b,e2,h2⟩=>subst e1 e2;exact is1 b0 b s0 a e p w h1 h2 hE
 |2,_,⟨b0,s0,c,e1,h1,b1,s1,c1,e2,h2,b,e3,h3⟩=>subst e1 e2 e3;exact is2 b0 b1 b s0 s1 a e p w h1 h2 h3 hE
theorem sG.iface{w:World}{d:Nat}{v:Value}{e p:Nat}(h:sG w d v e p):∃t x,v=.iface t x:=by
 match d,h with
 |0,⟨b,e1,_⟩=>exact⟨_,_,e1⟩
 |d+1,⟨b,s,c,e1,_,_⟩=>exact⟨_,_,e1⟩
theorem ao7(a:Addr)(w:World):
  Calls prog 58 #[.nilIface,.iface 247 (.pointer (some a))] w λr w'=>r=.returned (.bool false)/\w'=w:=by
 have hn:=run_eql_iface_nil_left (P:=prog) w 247 (.pointer (some a)) underlying59;go_enter func58,ntmps58;exact awx
theorem OW(d:Nat)(hd:d<=2)(v:Value)(a:Addr)(e p:Nat)(w:World)(h:sG w d v e p)(hE:wQ w a):
  Calls prog 58 #[v,.iface 247 (.pointer (some a))] w λr w'=>r=.returned (.bool (decide (e=4)))/\w'=w:=by
 have K:=akT d hd v a e p w h hE;obtain⟨t,x,rfl⟩:=h.iface;have tT:=ad4;have cT:=Vl;clear h hE;cases q:decide (e=4)
 all_goals rw[q]at K
 all_goals
  go_enter func58,ntmps58
  go_wp2_with(first|(go_at_call 102;refine K.mono ?_;rintro r w' ⟨rfl,tH⟩;obtain rfl:=tH.symm))
  exact awE
end Go.Proofs.Y
namespace Go.Proofs.Y
open Go.Proofs.Tryz
open Go.RowKit Go.Deep
theorem sG.under{w w':World}(hb:Below w.heap.size w w'):∀{d:Nat}{v:Value}{e p:Nat},sG w d v e p->sG w' d v e p
 |0,_,_,_,⟨b,e1,h1⟩=>⟨b,e1,h1.later (S:=λ_=>False) (.qm hb) h1.lt id⟩
 |_+1,_,_,_,⟨b,s,c,e1,h1,h2⟩=>⟨b,s,c,e1,h1.later (S:=λ_=>False) (.qm hb) h1.lt id,sG.under hb h2⟩
def xU(w:World)(d e p:Nat)(r:Ending)(w':World):Prop:=∃v,r=.returned v/\sG w' d v e p/\Below w.heap.size w w'
theorem Am(E P:Int)(e p:Nat)(hE:E=e)(hP:P=p)(w:World):
  Calls prog 64 #[.int .i64 E,.int .i64 P] w λr w'=>xU w 0 e p r w':=by
 subst hE hP;have hr:=qf.made w [.int .i64 (e:Int),.int .i64 (p:Int)] 94;have hB:=(aA w.heap.size w).alloc (ak _) (.cells #[.int .i64 (e:Int),.int .i64 (p:Int)] 94);go_enter func64,ntmps64;go_wp2;go_ret;exact⟨_,rfl,⟨_,rfl,hr⟩,hB⟩
theorem H7(s:ByteArray)(w:World):
  Calls prog 37 #[.string s,.nilIface] w λr w'=>r=.returned .nilIface/\w'=w:=by
 go_enter func37,ntmps37;exact awx
theorem yD(s:ByteArray)(d:Nat)(v:Value)(e p:Nat)(w:World)(h:sG w d v e p):
  Calls prog 37 #[.string s,v] w λr w'=>xU w (d+1) e p r w':=by
 have hr:=qf.made w [.string s,v] 139;have hB:=(aA w.heap.size w).alloc (ak _) (.cells #[.string s,v] 139);have hc:=h.under hB;obtain⟨t,x,rfl⟩:=h.iface;clear h;go_enter func37,ntmps37;go_wp2;go_ret;exact⟨_,rfl,⟨_,_,_,rfl,hr,hc⟩,hB⟩
theorem le_succ(l:List UInt8):∀(n a:Nat),le l a (n+1)=le l a n+256^n*tJ l (a+n)
 |0,a=>by simp[le]
 |n+1,a=>by
  have h:=le_succ l n (a+1);show tJ l a+256*le l (a+1) (n+1)=(tJ l a+256*le l (a+1) n)+_;rw[h,show a+1+n=a+(n+1)by omega,iO,Nat.mul_add];have:256*(256^n*tJ l (a+(n+1)))=256^n*256*tJ l (a+(n+1)):=by rw[<-Nat.mul_assoc,eX 256]
  omega
theorem agQ{a b:Nat}(ha:a<2^64)(hb:b<2^64):bits .or .u64 (a:Int) (b:Int)=((a|||b:Nat):Int):=by show IntKind.u64.wrap ((BitVec.ofInt 64 (a:Int)|||BitVec.ofInt 64 (b:Int)).toNat:Int)=_;rw[BitVec.toNat_or,BA a ha,BA b hb,Fb _ (Nat.or_lt_two_pow ha hb)]
theorem ajS{x y c:Nat}(hc:c<8)(hx:x<256^c)(hy:y<256):bits .or .u64 (x:Int) (IntKind.u64.wrap ((y:Int)*2^(8*c)))=((x+256^c*y:Nat):Int)/\x+256^c*y<256^(c+1):=by
 have e:(256:Nat)^c=2^(8*c):=by rw[Nat.pow_mul]
 have h56:2^(8*c)<=2^56:=jh ae ae;have hp:y*2^(8*c)<=255*2^56:=jK ae h56;have ei:(y:Int)*2^(8*c)=((y*2^(8*c):Nat):Int):=ai;rw[e]at hx⊢
 have hsum:x+2^(8*c)*y<256^(c+1):=by
  have h1:2^(8*c)*y<=2^(8*c)*255:=l_ _ ae;have h2:256^(c+1)=2^(8*c)*256:=by rw[iO,e]
  omega
 refine⟨?_,hsum⟩;rw[ei,Fb _ ae,agQ ae ae];have h3:=Nat.shiftLeft_add_eq_or_of_lt hx y;rw[Nat.shiftLeft_eq]at h3;rw[Nat.or_comm,<-h3,eX y,iQ]
theorem wY(bb bo n cap:Nat)(l:List UInt8)(hn:l.length=n)(hn8:n<=8)(w:World)(hb:CS w bb bo l):
  Calls prog 141 #[.slice (some ⟨bb,bo,none⟩) n cap] w λr w'=>r=.returned (.int .u64 (le l 0 n:Nat))/\w'=w:=by
 go_enter func141,ntmps141;go_wp2
 go_loop [3,8] (λvn vi=>∃c x:Nat,c<=n/\vi=.int .i64 (c:Int)/\vn=.int .u64 (x:Int)/\x<256^c/\Hid (x=le l 0 c)) (λ_ i=>n-(intOf i).toNat)
 case atStart=>exact⟨0,0,ae,rfl,rfl,ai,rfl⟩
 case round=>
  obtain⟨c,x,hc,rfl,rfl,hx,H⟩:=hrel;by_cases qE:c<n
  .have hcell:=hb c ae;have hy:=Fv l c;have H2:Hid _:=le_succ l c 0;rw[aT]at H2;obtain⟨y,ey⟩:∃y,tJ l c=y:=⟨_,rfl⟩;rw[ey]at hcell hy H2;obtain⟨h3,h4⟩:=ajS (show c<8 by omega) hx hy;have H4:Hid (x+256^c*y<256^(c+1)):=h4
   have H5:Hid (x+256^c*y=le l 0 (c+1)):=by show _=_;rw[H2.out,H.out]
   clear ey hb h4 hx H H2;obtain⟨z,ez⟩:∃z,x+256^c*y=z:=⟨_,rfl⟩;rw[ez]at h3 H4 H5;clear ez;go_wp2
   go_round
   case rel=>exact⟨c+1,z,ae,aW,rfl,H4.out,H5⟩
   case measure=>simp[intOf];omega
  .obtain rfl:c=n:=ae;clear hb hx;go_wp2;go_ret;exact⟨afg (by rw[H.out]),rfl⟩
structure Rd where
 k:Nat
 n:Nat
 i:Nat
 c:Nat
 vN:Value
 vS:Value
 vC:Value
 m:Nat
 ln:Nat
 tt:Nat
 nx:Nat
 pl:Nat
 vT:Value
 vF:Value
def Rd.cells(r:Rd):List Value:=[.int .i64 (r.k:Int),.int .i64 (r.n:Int),.int .i64 (r.i:Int),.int .i64 (r.c:Int),r.vN,r.vS,r.vC,.int .i64 (r.m:Int),.int .i64 (r.ln:Int),.int .i64 (r.tt:Int),.int .i64 (r.nx:Int),.int .i64 (r.pl:Int),r.vT,r.vF]
def xR(w:World)(rb:Nat)(r:Rd):Prop:=qf w rb r.cells 122
def yB(nx c m ln cl:Nat):Nat:=if nx=0 then 32 else if nx=1 then m+8 else if nx=2 then min c (ln-cl)+8 else 4
theorem VN(rb:Nat)(r:Rd)(bc:Option Addr)(cl cc:Nat)(hC:r.vC=.slice bc cl cc)(hm:r.m<=1000000)(hc:r.c<=1000000)(hl:r.ln<=1000000)(KP:cl<=r.ln)(NG:r.nx<=3)(w:World)(h:xR w rb r):
  Calls prog 129 #[.pointer (some ⟨rb,0,none⟩)] w λq w'=>q=.returned (.int .i64 (yB r.nx r.c r.m r.ln cl:Nat))/\∃j,w'=w.drewN j:=by
 obtain⟨k,n,i,c,vN,vS,vC,m,ln,tt,nx,pl,vT,vF⟩:=r;simp only at hC hm hc hl KP NG⊢;subst hC;unfold xR Rd.cells at h;have c3:=h.cell (i:=3) rfl;have c6:=h.cell (i:=6) rfl;have c7:=h.cell (i:=7) rfl;have c8:=h.cell (i:=8) rfl;have Xf:=h.cell (i:=10) rfl;simp only at c3 c6 c7 c8 Xf;clear h;have hc4:nx=0\/nx=1\/nx=2\/nx=3:=ae;rcases hc4 with rfl|rfl|rfl|rfl
 .go_enter func129,ntmps129;exact axd
 .go_enter func129,ntmps129;exact axd
 .have HS:Hid (yB 2 c m ln cl=min c (ln-cl)+8):=rfl;rcases aQ (ln-cl) c with q|q
  .have q':(ln:Int)-(cl:Int)<(c:Int):=ae;have HM:Hid ((min c (ln-cl)+8:Nat)=ln-cl+8):=lu;go_enter func129,ntmps129
   go_wp2_with fail
   go_big_quiet (fail)
   go_wp2;go_ret;exact⟨Fe av4,_,rfl⟩
  .have q':(c:Int)<=(ln:Int)-(cl:Int):=ae;have HM:Hid ((min c (ln-cl)+8:Nat)=c+8):=lu;go_enter func129,ntmps129
   go_wp2_with fail
   go_big_quiet (fail)
   go_wp2;go_ret;exact⟨Fe av4,_,rfl⟩
 .go_enter func129,ntmps129;exact axd
theorem qf.drewN{w:World}{b:Nat}{cs:List Value}{t:TypeId}(h:qf w b cs t)(j:Nat):qf (w.drewN j) b cs t:=h
section
variable (rb:Nat)(r:Rd)(bc:Option Addr)(cl cc:Nat)(hC:r.vC=.slice bc cl cc)(hm:r.m<=1000000)(hc:r.c<=1000000)(hl:r.ln<=1000000)(KP:cl<=r.ln)(NG:r.nx<=3)(bt:Option Addr)(tl ct:Nat)(hT:r.vT=.slice bt tl ct)(Yp:tl<=1000000000)(vP:r.pl<=1000000000000)(w:World)(h:xR w rb r)
include hC hm hc hl KP NG hT h in
theorem X9(hs:yB r.nx r.c r.m r.ln cl<=tl):
  Calls prog 140 #[.pointer (some ⟨rb,0,none⟩)] w λq w'=>q=.returned .nilIface/\∃j,w'=w.drewN j:=by
 have K:∀j,Calls prog 129 #[.pointer (some ⟨rb,0,none⟩)] (w.drewN j) λq w'=>q=.returned (.int .i64 (yB r.nx r.c r.m r.ln cl:Nat))/\∃n,w'=w.drewN n:=λj=>
  (VN rb r bc cl cc hC hm hc hl KP NG (w.drewN j) (qf.drewN h j)).mono λq w' x=>⟨x.1,by
   obtain⟨i,hi⟩:=x.2;exact⟨j+i,auX⟩⟩
 obtain⟨z,ez⟩:∃z,yB r.nx r.c r.m r.ln cl=z:=⟨_,rfl⟩;simp only[ez]at K hs;have ZW:w.cell? ⟨rb,12,none⟩=some (.slice bt tl ct):=au5;have xn:decide ((tl:Int)<(z:Int))=false:=az;have zD:(z:Int)<=(tl:Int):=ae;clear ez h hC hT;go_enter func140,ntmps140
 go_wp2_with fail
 go_big_quiet (first|(go_at_call 129;exact(K _).mono (λ_ _ h=>⟨h.1,h.2⟩)))
 go_wp2;go_ret;exact⟨rfl,_,rfl⟩
include hC hm hc hl KP NG hT Yp vP h in
theorem abV(hs:tl<yB r.nx r.c r.m r.ln cl):
  Calls prog 140 #[.pointer (some ⟨rb,0,none⟩)] w λq w'=>xU w 0 4 (r.pl+tl) q w':=by
 have K:∀j,Calls prog 129 #[.pointer (some ⟨rb,0,none⟩)] (w.drewN j) λq w'=>q=.returned (.int .i64 (yB r.nx r.c r.m r.ln cl:Nat))/\∃n,w'=w.drewN n:=λj=>
  (VN rb r bc cl cc hC hm hc hl KP NG (w.drewN j) (qf.drewN h j)).mono λq w' x=>⟨x.1,by
   obtain⟨i,hi⟩:=x.2;exact⟨j+i,auX⟩⟩
 obtain⟨z,ez⟩:∃z,yB r.nx r.c r.m r.ln cl=z:=⟨_,rfl⟩;simp only[ez]at K hs;have ZW:w.cell? ⟨rb,12,none⟩=some (.slice bt tl ct):=au5;have TF:w.cell? ⟨rb,11,none⟩=some (.int .i64 (r.pl:Int)):=qf.cell h rfl;have xn:decide ((tl:Int)<(z:Int))=true:=az;have zD:(tl:Int)<(z:Int):=ae;obtain⟨pl,WT⟩:∃pl,r.pl=pl:=⟨_,rfl⟩;rw[WT]at TF vP⊢;clear ez h hC hT WT;go_enter func140,ntmps140
 go_wp2_with fail
 go_big_quiet (first|(go_at_call 129;exact(K _).mono (λ_ _ h=>⟨h.1,h.2⟩)))
 go_wp2_with fail
 have VV:IntKind.i64.wrap ((pl:Int)+(tl:Int))=(pl:Int)+(tl:Int):=dV _ ae;refine Ej 10 mixed ag ?_;simp only[nP,kG,nZ,kS]
 repeat still_step
 refine wpStill_nil ?_
 go_wp2_with(first|(go_at_call 64;refine(Am _ _ 4 (pl+tl) ax ai _).mono ?_;rintro q w2 ⟨v,rfl,h1,h2⟩))
 go_ret;refine⟨_,rfl,h1,?_⟩;exact⟨h2.os,h2.tape,h2.output,h2.size,h2.block⟩
end
def BO(l ws:List UInt8):Option Nat:=(List.range (min ws.length l.length)).find? λi=>decide (tJ l i≠(ws.getD i 0).toNat)
def H8(w:World)(l ws:List UInt8)(pl:Nat)(q:Ending)(w':World):Prop:=
 match BO l ws with
 |none=>q=.returned .nilIface/\∃j,w'=w.drewN j
 |some i=>xU w 0 5 (pl+i) q w'
theorem agR{l ws:List UInt8}{c:Nat}(hc:c<min ws.length l.length)(h:∀i,i<c->tJ l i=(ws.getD i 0).toNat)(hne:tJ l c≠(ws.getD c 0).toNat):BO l ws=some c:=by unfold BO;rw[nX];exact⟨by simpa using hne,by simpa using hc,λj hj=>by simpa using h j hj⟩
theorem agS{l ws:List UInt8}(h:∀i,i<min ws.length l.length->tJ l i=(ws.getD i 0).toNat):BO l ws=none:=by unfold BO;rw[nY];intro i hi;have:=h i mV;exact aww
theorem xU.Gx{w w':World}{j d e p:Nat}{q:Ending}(h:xU (w.drewN j) d e p q w'):xU w d e p q w':=by obtain⟨v,h1,h2,h3⟩:=h;exact⟨v,h1,h2,⟨h3.os,h3.tape,h3.output,h3.size,h3.block⟩⟩
theorem Vm(rb:Nat)(r:Rd)(l ws:List UInt8)(hw:ws.length<=100)(hl:l.length<=1000000000)(vP:r.pl<=1000000000000)(w:World)(h:xR w rb r)(hT:qR w r.vT (r_ l)):
  Calls prog 134 #[.pointer (some ⟨rb,0,none⟩),.string ⟨ws.toArray⟩] w λq w'=>H8 w l ws r.pl q w':=by
 obtain⟨bt,ct,ev,A7,hc⟩:=hT;rw[sN]at ev A7;have ZW:w.cell? ⟨rb,12,none⟩=some (.slice bt l.length ct):=by rw[<-ev];exact qf.cell h rfl
 have TF:w.cell? ⟨rb,11,none⟩=some (.int .i64 (r.pl:Int)):=qf.cell h rfl;obtain⟨pl,WT⟩:∃pl,r.pl=pl:=⟨_,rfl⟩;rw[WT]at TF vP⊢;have hsz:=Tj ws;clear h ev WT;have idx:=agT ws;rcases aQ l.length ws.length with q0|q0
 all_goals
  first|(have EM:Hid (min ws.length l.length=l.length):=(show _=_ by omega))|(have EM:Hid (min ws.length l.length=ws.length):=(show _=_ by omega))
  go_enter func134,ntmps134;go_wp2
  go_loopw [14] (λvi wr=>∃c j:Nat,c<=min ws.length l.length/\vi=.int .i64 (c:Int)/\wr=w.drewN j/\Hid (∀i,i<c->tJ l i=(ws.getD i 0).toNat)) (λi _=>min ws.length l.length-(intOf i).toNat)
  case atStart=>exact⟨0,0,ae,rfl,rfl,λi hi=>absurd hi ae⟩
  case round=>
   obtain⟨c,j,sF,rfl,rfl,H⟩:=hrel;by_cases qE:c<min ws.length l.length
   .obtain⟨b,off,rfl,hcell⟩:=hc c _ (wR ae);have hy:=Fv l c;have hz:(ws.getD c 0).toNat<256:=lY _;have hix:=idx c ae;obtain⟨y,ey⟩:∃y,tJ l c=y:=⟨_,rfl⟩;obtain⟨z,ez⟩:∃z,(ws.getD c 0).toNat=z:=⟨_,rfl⟩;rw[ey]at hcell hy;rw[ez]at hix hz;have EY:Hid (tJ l c=y):=ey;have EZ:Hid ((ws.getD c 0).toNat=z):=ez;clear ey ez hc idx;by_cases q:y=z
    .subst q
     go_wp2_with fail
     go_big_quiet (fail)
     go_wp2
     go_roundw
     case rel=>
      refine⟨c+1,_,ae,aW,rfl,λi hi=>?_⟩;rcases aQ i c with h1|h1
      .exact H.out i h1
      .obtain rfl:i=c:=ae;rw[EY.out,EZ.out]
     case measure=>simp[intOf];omega
    .have q':((y:Int)==(z:Int))=false:=az;have q2:((y:Int) != (z:Int))=true:=az;have HB:Hid (BO l ws=some c):=agR (by rw[EM.out];omega) H.out (by rw[EY.out,EZ.out];exact q);have VV:IntKind.i64.wrap ((pl:Int)+(c:Int))=(pl:Int)+(c:Int):=dV _ ae
     go_wp2_with fail
     go_big_quiet (fail)
     go_wp2_with(first|(go_at_call 64;refine(Am _ _ 5 (pl+c) ax ai _).mono ?_;rintro q w2 ⟨v,rfl,g1,g2⟩))
     go_ret;unfold H8;rw[HB.out];exact xU.Gx ⟨_,rfl,g1,g2⟩
   .have HB:Hid (BO l ws=none):=agS (λi hi=>H.out i (by rw[EM.out]at hi;omega));clear hc idx;go_wp2;go_ret;unfold H8;rw[HB.out];exact⟨rfl,_,rfl⟩

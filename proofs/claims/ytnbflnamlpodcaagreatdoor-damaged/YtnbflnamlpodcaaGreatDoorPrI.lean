import Derived.Test.YtnbflnamlpodcaaGreatDoorPlB
set_option maxHeartbeats 4000000
set_option maxRecDepth 100000
namespace Go.Proofs.Y
open Go.Proofs.Tryz
open Go.RowKit Go.Deep
def lsL(v:Value)(pl a:Nat)(vN vS:Value)(tt:Nat):List Value:=[v,.int .i64 (pl:Int),.int .i64 (a:Int),vN,vS,.int .i64 (tt:Int)]
def DU(w:World)(lb:Nat)(v:Value)(pl a:Nat)(vN vS:Value)(tt:Nat):Prop:=qf w lb (lsL v pl a vN vS tt) 222
section
variable (lb:Nat)(v:Value)(pl a:Nat)(vN vS:Value)(tt:Nat)(vP:pl<=1000000000000)(ha:a<=1000000000)(w:World)(h:DU w lb v pl a vN vS tt)
include vP ha h in
theorem Bq(X:Int)(x p:Nat)(hX:X=x)(hx:x<=1000000000)(hp:p=pl+a+x):
  Calls prog 143 #[.pointer (some ⟨lb,0,none⟩),.int .i64 X] w λq w'=>xU w 0 7 p q w':=by
 subst hX;have c1:=qf.cell h (i:=1) rfl;have c2:=qf.cell h (i:=2) rfl;have VV:IntKind.i64.wrap ((pl:Int)+(a:Int))=(pl:Int)+(a:Int):=dV _ ae;have ahh:IntKind.i64.wrap ((pl:Int)+(a:Int)+(x:Int))=(pl:Int)+(a:Int)+(x:Int):=dV _ ae;have HP:Hid (p=pl+a+x):=hp;clear h hp;go_enter func143,ntmps143
 go_wp2_with fail
 refine Cf 11 mixed ag ?_;simp only[nP,kG,nZ,kS]
 repeat (first|go_big_quiet_skip|(go_big_quiet_want;go_big_quiet_op;go_big_quiet_on))
 refine wpQuiet_nil ?_
 go_wp2_with(first|(go_at_call 64;refine(Am _ _ 7 p ax (by rw[HP.out];simp) _).mono ?_;rintro q w2 ⟨v,rfl,g1,g2⟩))
 go_ret;exact xU.Gx (j:=1) ⟨_,rfl,g1,g2⟩
end
section
variable (lb:Nat)(b off ct:Nat)(u:List UInt8)(pl a:Nat)(vN vS:Value)(tt:Nat)(hu:u.length<=1000000)(A7:u.length<ct)(ha:a<=u.length)(w:World)(h:DU w lb (.slice (some ⟨b,off,none⟩) u.length ct) pl a vN vS tt)(hB:CS w b off u)
theorem H9(bb bo len cap:Nat)(L:Int)(a:Nat)(hL:L=a)(hc:a<=len)(ha:a<cap):∀w,(Instr.slice 34 (.slice (some ⟨bb,bo,none⟩) len cap) (some (.int .i64 L)) none none).run prog w=.ok (.slice (some ⟨bb,bo+a,none⟩) (len-a) (cap-a)) w:=by
 intro w;subst hL;have hu:prog.underlying 34=some (.slice (prog.elem 34)):=underlying34;rw[run_slice_l w 34 _ _ _ hu .i64 a ae ae]
 have hsz:(sizeOf (prog.elem 34)).run prog w=.ok 1 w:=by simp[sizeOf,go_sem];rfl
 exact axJ
include A7 ha h in
theorem Qu(hs:u.length<a+6):
  Calls prog 146 #[.pointer (some ⟨lb,0,none⟩)] w λq w'=>q=.returned (.tuple #[.int .i64 0,.bool false])/\∃j,w'=w.drewN j:=by
 have c0:=qf.cell h (i:=0) rfl;have c2:=qf.cell h (i:=2) rfl;have sl:=H9 b off u.length ct (a:Int) a rfl ha ae;obtain⟨d,ed⟩:∃d,u.length-a=d:=⟨_,rfl⟩;have hd:d<6:=ae;rw[ed]at sl;clear h ed hs;go_enter func146,ntmps146
 go_wp2_with fail
 go_big_quiet (fail)
 go_wp2;go_ret2;exact⟨rfl,_,rfl⟩
include hu A7 ha h hB in
theorem AP(hs:a+6<=u.length):
  Calls prog 146 #[.pointer (some ⟨lb,0,none⟩)] w λq w'=>q=.returned (.tuple #[.int .i64 (le u a 2:Nat),.bool (decide (1<=le u a 2/\le u a 2<=255/\a+6+le u a 2<=u.length))])/\∃j,w'=w.drewN j:=by
 have c0:=qf.cell h (i:=0) rfl;have c2:=qf.cell h (i:=2) rfl;have sl:=H9 b off u.length ct (a:Int) a rfl ha ae;have hP:(part u a 2).length=2:=qF ae;have K:=λn cap=>wY b (off+a) 2 cap (part u a 2) hP ae (w.drewN n) (hB.part ae)
 have hle:le (part u a 2) 0 2=le u a 2:=by simp only[le];rw[uV ae,uV ae];rfl
 have qE:le u a 2<65536:=Rn u 2 a;rw[hle]at K;obtain⟨y,ey⟩:∃y,le u a 2=y:=⟨_,rfl⟩;rw[ey]at K qE⊢;obtain⟨d,ed⟩:∃d,u.length-a=d:=⟨_,rfl⟩;have hd:6<=d:=ae;have hd2:d<=1000000:=ae;obtain⟨ce,ece⟩:∃ce,ct-a=ce:=⟨_,rfl⟩;have hce:6<=ce:=ae;rw[ed,ece]at sl
 have HQ:Hid (decide (1<=y/\y<=255/\a+6+y<=u.length)=decide (1<=y/\y<=255/\y+6<=d)):=by
  show decide _=decide _
  congr 1
  apply propext;omega
 rw[HQ.out];clear h ed ece hs hle hP hB ey HQ;by_cases q1:1<=y
 .by_cases q2:y<=255
  .by_cases q3:y+6<=d
   all_goals
    first|(have HE:Hid (decide (1<=y/\y<=255/\y+6<=d)=true):=(show _=_ by simp;omega))|(have HE:Hid (decide (1<=y/\y<=255/\y+6<=d)=false):=(show _=_ by simp;omega))
    rw[HE.out];clear HE;go_enter func146,ntmps146
    go_wp2_with fail
    go_big_quiet (fail)
    go_wp2_with(first|(go_at_call 141;refine(K _ _).mono ?_;rintro q w' ⟨rfl,tH⟩;obtain rfl:=tH.symm))
    try go_big_quiet (fail)
    try go_wp2
    exact axb
  .have HE:Hid (decide (1<=y/\y<=255/\y+6<=d)=false):=(show _=_ by simp;omega);rw[HE.out];clear HE;go_enter func146,ntmps146
   go_wp2_with fail
   go_big_quiet (fail)
   go_wp2_with(first|(go_at_call 141;refine(K _ _).mono ?_;rintro q w' ⟨rfl,tH⟩;obtain rfl:=tH.symm))
   try go_big_quiet (fail)
   try go_wp2
   exact axb
 .have HE:Hid (decide (1<=y/\y<=255/\y+6<=d)=false):=(show _=_ by simp;omega);rw[HE.out];clear HE;go_enter func146,ntmps146
  go_wp2_with fail
  go_big_quiet (fail)
  go_wp2_with(first|(go_at_call 141;refine(K _ _).mono ?_;rintro q w' ⟨rfl,tH⟩;obtain rfl:=tH.symm))
  try go_big_quiet (fail)
  try go_wp2
  exact axb
end
structure LsI(B:Nat)(w:World)(lb b off ct:Nat)(u:List UInt8)(pl a:Nat)(vN vS:Value)(ns:List (List UInt8))(zs:List Nat):Prop where
 ls:DU w lb (.slice (some ⟨b,off,none⟩) u.length ct) pl a vN vS zs.sum
 on:w.ownsRow B 9 1 vN ns.length (Dk ns)
 os:w.ownsRow B 3 1 vS zs.length (zF zs)
 ap:Qq vN vS
 IW:CS w b off u
 size:B<=w.heap.size
def Gw(B:Nat)(w:World)(lb b off ct:Nat)(u:List UInt8)(pl a:Nat)(ns:List (List UInt8))(zs:List Nat)(q:Ending)(w':World):Prop:=
 match xw u a ns zs with
 | .error p=>xU w 0 7 (pl+p) q w'
 | .ok (nm,z)=>q=.returned .nilIface/\ru B (· =lb) w w'/\∃vN vS,LsI B w' lb b off ct u pl (a+(6+nm.length)) vN vS (ns++[nm]) (zs++[z])
theorem DU.drewN{w:World}{lb:Nat}{v:Value}{pl a:Nat}{vN vS:Value}{tt:Nat}(h:DU w lb v pl a vN vS tt)(j:Nat):DU (w.drewN j) lb v pl a vN vS tt:=h
section
variable (B lb b off ct:Nat)(u:List UInt8)(pl a:Nat)(vN vS:Value)(ns:List (List UInt8))(zs:List Nat)(Mc:lb<B)(RP:b<B)(L_:lb≠b)(hu:u.length<=1000000)(A7:u.length<ct)(ha:a<=u.length)(vP:pl<=1000000000000)(hns:ns.length<1000)(hzl:zs.length=ns.length)(hzs:zs.sum<=65536)(w:World)(I:LsI B w lb b off ct u pl a vN vS ns zs)
include hu A7 ha vP I in
theorem adY(hs:u.length<a+6\/le u a 2<1\/255<le u a 2\/u.length<a+6+le u a 2):
  Calls prog 144 #[.pointer (some ⟨lb,0,none⟩)] w λq w'=>xU w 0 7 (pl+a) q w':=by
 obtain⟨y,K⟩:∃y:Nat,Calls prog 146 #[.pointer (some ⟨lb,0,none⟩)] w λq w'=>q=.returned (.tuple #[.int .i64 (y:Int),.bool false])/\∃j,w'=w.drewN j:=by
  by_cases q:u.length<a+6
  .exact⟨0,Qu lb b off ct u pl a vN vS zs.sum A7 ha w I.ls q⟩
  .refine⟨le u a 2,(AP lb b off ct u pl a vN vS zs.sum hu A7 ha w I.ls I.IW ae).mono λr w' hh=>⟨?_,hh.2⟩⟩;rw[hh.1];have:decide (1<=le u a 2/\le u a 2<=255/\a+6+le u a 2<=u.length)=false:=az;rw[this]
 have KW:=λj=>Bq lb _ pl a vN vS zs.sum vP ae (w.drewN j) (I.ls.drewN j) 0 0 (pl+a) rfl ae ae
 clear I hs;go_enter func144,ntmps144
 go_wp2_with(first|(go_at_call 146;refine K.mono ?_;rintro q w2 ⟨rfl,j,xG⟩;obtain rfl:=xG.symm)|(go_at_call 143;refine(KW _).mono ?_;rintro q w2 ⟨v,rfl,g1,g2⟩))
 exact awJ
include hu A7 ha vP hns I in
theorem adZ(k:Nat)(hk:le u a 2=k)(hs:a+6+k<=u.length)(JR:1<=k)(O3:k<=255)(nm:List UInt8)(Yt:part u (a+2) k=nm)(hq0:0<ns.length)(hq:uZ nm (ns.getD (ns.length-1) [])=true):
  Calls prog 144 #[.pointer (some ⟨lb,0,none⟩)] w λq w'=>xU w 0 7 (pl+(a+2)) q w':=by
 have K:=AP lb b off ct u pl a vN vS zs.sum hu A7 ha w I.ls I.IW ae;rw[hk,show decide (1<=k/\k<=255/\a+6+k<=u.length)=true by simp;omega]at K;have sl:=zS b off u.length ct (a:Int) ((a:Int)+(k:Int)+6) a (a+k+6) rfl ai ae ae ae;rw[show a+k+6-a=k+6 by omega]at sl;obtain⟨ce,ece⟩:∃ce,ct-a=ce:=⟨_,rfl⟩;have hce:k+6<ce:=ae;rw[ece]at sl;have sl2:=zS b (off+a) (k+6) ce 2 (2+(k:Int)) 2 (2+k) rfl ai ae ae ae;rw[show 2+k-2=k by omega]at sl2;have hcv:=λw' (hw:CS w' b off u)=>Qr (hw.part (a:=a+2) (n:=k) ae) k (qF ae) (ce-2)
 rw[show off+(a+2)=off+a+2 by omega,Yt]at hcv;have c0:=qf.cell I.ls (i:=0) rfl;have c2:=qf.cell I.ls (i:=2) rfl;have c3:=qf.cell I.ls (i:=3) rfl;have c5:=qf.cell I.ls (i:=5) rfl;have sZ:∀j,CS (w.drewN j) b off u:=λj=>I.IW
 have VV:IntKind.i64.wrap ((a:Int)+(k:Int))=(a:Int)+(k:Int):=dV _ ae;have ahh:IntKind.i64.wrap ((a:Int)+(k:Int)+6)=(a:Int)+(k:Int)+6:=dV _ ae;have KW:=λj (x:Nat) hx=>Bq lb _ pl a vN vS zs.sum vP ae (w.drewN j) (I.ls.drewN j) (x:Int) x (pl+a+x) rfl hx rfl
 obtain⟨Yv,ec⟩:∃Yv,ns.length=Yv+1:=⟨ns.length-1,ae⟩;have hon:=I.on;obtain⟨g,cn,ev⟩:=Bz hon ae;rw[ev]at hon c3;have hla:=hon.cellAt Yv ae;rw[ZK ae]at hla;rw[show ns.length-1=Yv by omega]at hq;obtain⟨la,el⟩:∃la,ns.getD Yv []=la:=⟨_,rfl⟩;rw[el]at hla hq;rw[ec]at c3 hns;unfold uZ at hq;have K2:=λj=>KW j 2 ae
 clear KW hon ev el ec ece hk Yt I hs hq0;rcases hq1:Op.bytesLess nm la with _|_
 all_goals
  rw[hq1]at hq
  try simp only[jO]at hq
  go_enter func144,ntmps144
  go_wp2_with(first|(go_at_call 146;refine K.mono ?_;rintro q w2 ⟨rfl,j,xG⟩;obtain rfl:=xG.symm))
  go_big_quiet (fail)
  have ahi:=hcv _ (sZ (j+nq))
  go_wp2_with fail
  go_big_quiet (fail)
  go_wp2_with(first|(go_at_call 143;refine(K2 _).mono ?_;rintro q w2 ⟨v,rfl,g1,g2⟩))
  exact awJ
end
section
variable (B lb b off ct:Nat)(u:List UInt8)(pl a:Nat)(vN vS:Value)(ns:List (List UInt8))(zs:List Nat)(Mc:lb<B)(RP:b<B)(L_:lb≠b)(hu:u.length<=1000000)(A7:u.length<ct)(ha:a<=u.length)(vP:pl<=1000000000000)(hns:ns.length<1000)(hzl:zs.length=ns.length)(hzs:zs.sum<=65536)(w:World)(I:LsI B w lb b off ct u pl a vN vS ns zs)
include hu A7 ha vP hns hzs I in
theorem ad1(k:Nat)(hk:le u a 2=k)(hs:a+6+k<=u.length)(JR:1<=k)(O3:k<=255)(nm:List UInt8)(Yt:part u (a+2) k=nm)(z:Nat)(hz:le u (a+2+k) 4=z)(amT:65536<zs.sum+z)(hq:0<ns.length->uZ nm (ns.getD (ns.length-1) [])=false):
  Calls prog 144 #[.pointer (some ⟨lb,0,none⟩)] w λq w'=>xU w 0 7 (pl+(a+(2+k))) q w':=by
 have K:=AP lb b off ct u pl a vN vS zs.sum hu A7 ha w I.ls I.IW ae;rw[hk,show decide (1<=k/\k<=255/\a+6+k<=u.length)=true by simp;omega]at K;have sl:=zS b off u.length ct (a:Int) ((a:Int)+(k:Int)+6) a (a+k+6) rfl ai ae ae ae;rw[show a+k+6-a=k+6 by omega]at sl;obtain⟨ce,ece⟩:∃ce,ct-a=ce:=⟨_,rfl⟩;have hce:k+6<ce:=ae;rw[ece]at sl;have sl2:=zS b (off+a) (k+6) ce 2 (2+(k:Int)) 2 (2+k) rfl ai ae ae ae;rw[show 2+k-2=k by omega]at sl2;have hcv:=λw' (hw:CS w' b off u)=>Qr (hw.part (a:=a+2) (n:=k) ae) k (qF ae) (ce-2)
 rw[show off+(a+2)=off+a+2 by omega,Yt]at hcv;have c0:=qf.cell I.ls (i:=0) rfl;have c2:=qf.cell I.ls (i:=2) rfl;have c3:=qf.cell I.ls (i:=3) rfl;have c5:=qf.cell I.ls (i:=5) rfl;have sZ:∀j,CS (w.drewN j) b off u:=λj=>I.IW
 have VV:IntKind.i64.wrap ((a:Int)+(k:Int))=(a:Int)+(k:Int):=dV _ ae;have ahh:IntKind.i64.wrap ((a:Int)+(k:Int)+6)=(a:Int)+(k:Int)+6:=dV _ ae;have KW:=λj (x:Nat) hx=>Bq lb _ pl a vN vS zs.sum vP ae (w.drewN j) (I.ls.drewN j) (x:Int) x (pl+a+x) rfl hx rfl
 have e4:(part u (a+2+k) 4).length=4:=qF ae
 have KO:le (part u (a+2+k) 4) 0 4=le u (a+2+k) 4:=by exact axr
 have sl3:=H9 b (off+a) (k+6) ce (2+(k:Int)) (2+k) ai ae ae;rw[show k+6-(2+k)=4 by omega]at sl3;have K4:=λn cap=>wY b (off+(a+2+k)) 4 cap (part u (a+2+k) 4) e4 ae (w.drewN n) (I.IW.part ae)
 rw[KO,hz,show off+(a+2+k)=off+a+(2+k)by omega]at K4;have asZ:z<2^32:=awo;obtain⟨S,eS⟩:∃S,zs.sum=S:=⟨_,rfl⟩;have K2:=λj=>Bq lb _ pl a vN vS zs.sum vP ae (w.drewN j) (I.ls.drewN j) (2+(k:Int)) (2+k) (pl+(a+(2+k))) ai ae ae
 rw[eS]at c5 amT hzs;by_cases q0:ns.length=0
 .have c3':w.cell? ⟨lb,3,none⟩=some (.slice none 0 0)\/∃g cn,w.cell? ⟨lb,3,none⟩=some (.slice (some ⟨g,0,none⟩) 0 cn):=by
   rcases I.on.2 with⟨e,_⟩|⟨g,cn,cur,e,_⟩
   .left;rw[c3,e]
   .right;exact⟨g,cn,by rw[c3,e,q0]⟩
  clear KW c3 ece hk Yt I hs hq eS KO e4 hz;rcases c3' with c3|⟨g,cn,c3⟩
  all_goals
   go_enter func144,ntmps144
   go_wp2_with(first|(go_at_call 146;refine K.mono ?_;rintro q w2 ⟨rfl,j,xG⟩;obtain rfl:=xG.symm))
   go_big_quiet (fail)
   have ahi:=hcv _ (sZ (j+nq))
   go_wp2_with fail
   go_big_quiet (fail)
   go_wp2_with(first|(go_at_call 141;refine(K4 _ _).mono ?_;rintro q w' ⟨rfl,tH⟩;obtain rfl:=tH.symm)|(go_at_call 143;refine(K2 _).mono ?_;rintro q w2 ⟨v,rfl,g1,g2⟩))
   exact awJ
 .replace hq:=hq ae;obtain⟨Yv,ec⟩:∃Yv,ns.length=Yv+1:=⟨ns.length-1,ae⟩;have hon:=I.on;obtain⟨g,cn,ev⟩:=Bz hon ae;rw[ev]at hon c3;have hla:=hon.cellAt Yv ae;rw[ZK ae]at hla;rw[show ns.length-1=Yv by omega]at hq;obtain⟨la,el⟩:∃la,ns.getD Yv []=la:=⟨_,rfl⟩;rw[el]at hla hq;rw[ec]at c3 hns;unfold uZ at hq;obtain⟨hq1,hq2⟩:=avm.1 hq;clear KW hon ev el ec ece hk Yt I hs hq eS KO e4 hz;go_enter func144,ntmps144
  go_wp2_with(first|(go_at_call 146;refine K.mono ?_;rintro q w2 ⟨rfl,j,xG⟩;obtain rfl:=xG.symm))
  go_big_quiet (fail)
  have ahi:=hcv _ (sZ (j+nq))
  go_wp2_with fail
  go_big_quiet (fail)
  go_wp2_with(first|(go_at_call 141;refine(K4 _ _).mono ?_;rintro q w' ⟨rfl,tH⟩;obtain rfl:=tH.symm)|(go_at_call 143;refine(K2 _).mono ?_;rintro q w2 ⟨v,rfl,g1,g2⟩))
  exact awJ
end
theorem Kv(w:World)(j n:Nat):(w.drewN j).drewN n=w.drewN (j+n):=by simp[World.drewN,dw]
theorem LsI.drewN{B:Nat}{w:World}{lb b off ct:Nat}{u:List UInt8}{pl a:Nat}{vN vS:Value}{ns:List (List UInt8)}{zs:List Nat}(I:LsI B w lb b off ct u pl a vN vS ns zs)(j:Nat):LsI B (w.drewN j) lb b off ct u pl a vN vS ns zs:=
 ⟨I.ls,I.on,I.os,I.ap,I.IW,I.size⟩
theorem DU.ase{w:World}{lb:Nat}{v:Value}{pl a:Nat}{vN vS:Value}{tt:Nat}(h:DU w lb v pl a vN vS tt)(x:Value):DU (w.setCell ⟨lb,3,none⟩ x) lb v pl a x vS tt:=qf.set h 3 x
theorem DU.asf{w:World}{lb:Nat}{v:Value}{pl a:Nat}{vN vS:Value}{tt:Nat}(h:DU w lb v pl a vN vS tt)(x:Value):DU (w.setCell ⟨lb,4,none⟩ x) lb v pl a vN x tt:=qf.set h 4 x
theorem DU.agU{w:World}{lb:Nat}{v:Value}{pl a:Nat}{vN vS:Value}{tt:Nat}(h:DU w lb v pl a vN vS tt)(x:Nat):DU (w.setCell ⟨lb,5,none⟩ (.int .i64 (x:Int))) lb v pl a vN vS x:=qf.set h 5 _
theorem DU.ajQ{w:World}{lb:Nat}{v:Value}{pl a:Nat}{vN vS:Value}{tt:Nat}(h:DU w lb v pl a vN vS tt)(x:Nat):DU (w.setCell ⟨lb,2,none⟩ (.int .i64 (x:Int))) lb v pl x vN vS tt:=qf.set h 2 _
structure LsJ(B:Nat)(w0 w:World)(lb b off ct:Nat)(u:List UInt8)(pl a:Nat)(vN vS:Value)(ns:List (List UInt8))(zs:List Nat)(tt:Nat):Prop where
 ls:DU w lb (.slice (some ⟨b,off,none⟩) u.length ct) pl a vN vS tt
 on:w.ownsRow B 9 1 vN ns.length (Dk ns)
 os:w.ownsRow B 3 1 vS zs.length (zF zs)
 ap:Qq vN vS
 IW:CS w b off u
 size:B<=w.heap.size
 but:ru B (· =lb) w0 w
section
variable {B:Nat}{w0 w w1:World}{lb b off ct:Nat}{u:List UInt8}{pl a:Nat}{vN vS v1:Value}{ns:List (List UInt8)}{zs:List Nat}{tt:Nat}{o:Obj}
theorem LsJ.arC{nm:List UInt8}(I:LsJ B w0 w lb b off ct u pl a vN vS ns zs tt)(Mc:lb<B)(RP:b<B)(L_:lb≠b)(h1:w1.ownsRow B 9 1 v1 (ns.length+1) (Dk ns++[.string ⟨nm.toArray⟩]))(hg:(w.alloc o).grownBy w1 vN.ownBlock)(hk:v1.ownBlock=vN.ownBlock\/v1.ownBlock=some (w.alloc o).heap.size):
  LsJ B w0 (w1.setCell ⟨lb,3,none⟩ v1) lb b off ct u pl a v1 vS (ns++[nm]) zs tt/\w1.cell? ⟨lb,3,none⟩=some vN/\w1.frozen? ⟨lb,3,none⟩=false:=by
 have t_:ru B (λ_=>False) w w1:=((ru.refl _ _ _).alloc I.size o).grown hg (by simp;have:=I.size;omega) (λg hg=>(I.on.lt g hg).1);have sZ:ru B (· =lb) w (w1.setCell ⟨lb,3,none⟩ v1):=ru.setCell (S:=(· =lb)) (p:=⟨lb,3,none⟩) (t_.mono (ak _) (λ_ x=>x.elim)) (.inr rfl) v1
 have hS:w1.ownsRow B 3 1 vS zs.length (zF zs):=vI I.os (λg uB=>by have h2:=I.os.lt g uB;rw[hg.block g az (λe=>I.ap g e.symm uB)];exact bM _ _ _ h2.2)
 have hL:DU w1 lb (.slice (some ⟨b,off,none⟩) u.length ct) pl a vN vS tt:=qf.later I.ls t_ Mc id;refine⟨⟨hL.ase v1,?_,dF hS Mc v1,?_,I.IW.later sZ RP (λe=>L_ e.symm),?_,I.but.trans sZ⟩,qf.cell hL rfl,qf.frozen hL 3⟩
 .rw[agL]at h1;rw[aS];exact dF h1 Mc v1
 .intro g Rz SV;rcases hk with e|e
  .exact I.ap g (e▸Rz) SV
  .have h2:=(I.os.lt g SV).2;rw[e]at Rz;cases Rz;simp at h2;omega
 .have:=sZ.size;have:=I.size;omega
theorem LsJ.aqX{z:Nat}(I:LsJ B w0 w lb b off ct u pl a vN vS ns zs tt)(Mc:lb<B)(RP:b<B)(L_:lb≠b)(h1:w1.ownsRow B 3 1 v1 (zs.length+1) (zF zs++[.int .i64 (z:Int)]))(hg:(w.alloc o).grownBy w1 vS.ownBlock)(hk:v1.ownBlock=vS.ownBlock\/v1.ownBlock=some (w.alloc o).heap.size):
  LsJ B w0 (w1.setCell ⟨lb,4,none⟩ v1) lb b off ct u pl a vN v1 ns (zs++[z]) tt/\w1.cell? ⟨lb,4,none⟩=some vS/\w1.frozen? ⟨lb,4,none⟩=false:=by
 have t_:ru B (λ_=>False) w w1:=((ru.refl _ _ _).alloc I.size o).grown hg (by simp;have:=I.size;omega) (λg hg=>(I.os.lt g hg).1);have sZ:ru B (· =lb) w (w1.setCell ⟨lb,4,none⟩ v1):=ru.setCell (S:=(· =lb)) (p:=⟨lb,4,none⟩) (t_.mono (ak _) (λ_ x=>x.elim)) (.inr rfl) v1
 have hS:w1.ownsRow B 9 1 vN ns.length (Dk ns):=vI I.on (λg uB=>by have h2:=I.on.lt g uB;rw[hg.block g az (λe=>I.ap g uB e.symm)];exact bM _ _ _ h2.2)
 have hL:DU w1 lb (.slice (some ⟨b,off,none⟩) u.length ct) pl a vN vS tt:=qf.later I.ls t_ Mc id;refine⟨⟨hL.asf v1,dF hS Mc v1,?_,?_,I.IW.later sZ RP (λe=>L_ e.symm),?_,I.but.trans sZ⟩,qf.cell hL rfl,qf.frozen hL 4⟩
 .rw[agM]at h1;rw[aS];exact dF h1 Mc v1
 .intro g Rz SV;rcases hk with e|e
  .exact I.ap g Rz (e▸SV)
  .have h2:=(I.on.lt g Rz).2;rw[e]at SV;cases SV;simp at h2;omega
 .have:=sZ.size;have:=I.size;omega
theorem LsJ.agU(I:LsJ B w0 w lb b off ct u pl a vN vS ns zs tt)(Mc:lb<B)(RP:b<B)(L_:lb≠b)(x:Nat):LsJ B w0 (w.setCell ⟨lb,5,none⟩ (.int .i64 (x:Int))) lb b off ct u pl a vN vS ns zs x:=by have sZ:ru B (· =lb) w (w.setCell ⟨lb,5,none⟩ (.int .i64 (x:Int))):=(ru.refl B (· =lb) w).setCell (p:=⟨lb,5,none⟩) (.inr rfl) _;exact⟨I.ls.agU x,dF I.on Mc _,dF I.os Mc _,I.ap,I.IW.later sZ RP (λe=>L_ e.symm),awe,I.but.trans sZ⟩
theorem LsJ.ajQ(I:LsJ B w0 w lb b off ct u pl a vN vS ns zs tt)(Mc:lb<B)(RP:b<B)(L_:lb≠b)(x:Nat):LsJ B w0 (w.setCell ⟨lb,2,none⟩ (.int .i64 (x:Int))) lb b off ct u pl x vN vS ns zs tt:=by have sZ:ru B (· =lb) w (w.setCell ⟨lb,2,none⟩ (.int .i64 (x:Int))):=(ru.refl B (· =lb) w).setCell (p:=⟨lb,2,none⟩) (.inr rfl) _;exact⟨I.ls.ajQ x,dF I.on Mc _,dF I.os Mc _,I.ap,I.IW.later sZ RP (λe=>L_ e.symm),awe,I.but.trans sZ⟩
end
section
variable (B lb b off ct:Nat)(u:List UInt8)(pl a:Nat)(vN vS:Value)(ns:List (List UInt8))(zs:List Nat)(Mc:lb<B)(RP:b<B)(L_:lb≠b)(hu:u.length<=1000000)(A7:u.length<ct)(ha:a<=u.length)(vP:pl<=1000000000000)(hns:ns.length<1000)(hzl:zs.length=ns.length)(hzs:zs.sum<=65536)(w:World)(I:LsI B w lb b off ct u pl a vN vS ns zs)
include Mc RP L_ hu A7 ha vP hns hzl hzs I in
theorem ad3(k:Nat)(hk:le u a 2=k)(hs:a+6+k<=u.length)(JR:1<=k)(O3:k<=255)(nm:List UInt8)(Yt:part u (a+2) k=nm)(z:Nat)(hz:le u (a+2+k) 4=z)(amT:zs.sum+z<=65536)(hq:0<ns.length->uZ nm (ns.getD (ns.length-1) [])=false):
  Calls prog 144 #[.pointer (some ⟨lb,0,none⟩)] w λq w'=>q=.returned .nilIface/\ru B (· =lb) w w'/\∃vN vS,LsI B w' lb b off ct u pl (a+(6+nm.length)) vN vS (ns++[nm]) (zs++[z]):=by
 have K:=AP lb b off ct u pl a vN vS zs.sum hu A7 ha w I.ls I.IW ae;rw[hk,show decide (1<=k/\k<=255/\a+6+k<=u.length)=true by simp;omega]at K;have sl:=zS b off u.length ct (a:Int) ((a:Int)+(k:Int)+6) a (a+k+6) rfl ai ae ae ae;rw[show a+k+6-a=k+6 by omega]at sl;obtain⟨ce,ece⟩:∃ce,ct-a=ce:=⟨_,rfl⟩;have hce:k+6<ce:=ae;rw[ece]at sl;have sl2:=zS b (off+a) (k+6) ce 2 (2+(k:Int)) 2 (2+k) rfl ai ae ae ae;rw[show 2+k-2=k by omega]at sl2;have hcv:=λw' (hw:CS w' b off u)=>Qr (hw.part (a:=a+2) (n:=k) ae) k (qF ae) (ce-2)
 rw[show off+(a+2)=off+a+2 by omega,Yt]at hcv;have c0:=qf.cell I.ls (i:=0) rfl;have c2:=qf.cell I.ls (i:=2) rfl;have c3:=qf.cell I.ls (i:=3) rfl;have c5:=qf.cell I.ls (i:=5) rfl;have sZ:∀j,CS (w.drewN j) b off u:=λj=>I.IW
 have VV:IntKind.i64.wrap ((a:Int)+(k:Int))=(a:Int)+(k:Int):=dV _ ae;have ahh:IntKind.i64.wrap ((a:Int)+(k:Int)+6)=(a:Int)+(k:Int)+6:=dV _ ae;have KW:=λj (x:Nat) hx=>Bq lb _ pl a vN vS zs.sum vP ae (w.drewN j) (I.ls.drewN j) (x:Int) x (pl+a+x) rfl hx rfl
 have e4:(part u (a+2+k) 4).length=4:=qF ae
 have KO:le (part u (a+2+k) 4) 0 4=le u (a+2+k) 4:=by exact axr
 have sl3:=H9 b (off+a) (k+6) ce (2+(k:Int)) (2+k) ai ae ae;rw[show k+6-(2+k)=4 by omega]at sl3;have K4:=λn cap=>wY b (off+(a+2+k)) 4 cap (part u (a+2+k) 4) e4 ae (w.drewN n) (I.IW.part ae)
 rw[KO,hz,show off+(a+2+k)=off+a+(2+k)by omega]at K4;have asZ:z<2^32:=awo;obtain⟨S,eS⟩:∃S,zs.sum=S:=⟨_,rfl⟩;rw[eS]at c5 amT hzs;have ES:Hid (zs.sum=S):=eS;have EN:Hid (nm.length=k):=by show _=_;rw[<-Yt];exact qF ae
 obtain⟨is,his,aqY,aqZ,aq0⟩:=bG aqV;obtain⟨ii,hii,aq1,aq2,aq3⟩:=bG aqW;have GH:ns.length<1000:=hns;have atz:zs.length<1000:=ae;by_cases q0:ns.length=0
 .have c3':w.cell? ⟨lb,3,none⟩=some (.slice none 0 0)\/∃g cn,w.cell? ⟨lb,3,none⟩=some (.slice (some ⟨g,0,none⟩) 0 cn):=by
   rcases I.on.2 with⟨e,_⟩|⟨g,cn,cur,e,_⟩
   .left;rw[c3,e]
   .right;exact⟨g,cn,by rw[c3,e,q0]⟩
  clear KW c3 ece hk hs hq KO e4 hz eS Yt hzl hns q0;rcases c3' with c3|⟨g,cn,c3⟩
  all_goals
   go_enter func144,ntmps144
   go_wp2_with(first|(go_at_call 146;refine K.mono ?_;rintro q w2 ⟨rfl,j,xG⟩;obtain rfl:=xG.symm))
   go_big_quiet (fail)
   obtain⟨n1,en1⟩:∃n1,j+nq=n1:=⟨_,rfl⟩;rw[Kv,en1];clear en1;have ahi:=hcv _ (sZ n1)
   go_wp2_with fail
   go_big_quiet (fail)
   go_upto_region 11 with(first|(go_at_call 141;refine(K4 _ _).mono ?_;rintro q w' ⟨rfl,tH⟩;obtain rfl:=tH.symm))
   have I0:∀n,LsJ B w (w.drewN n) lb b off ct u pl a vN vS ns zs S:=λn=>⟨by rw[<-ES.out];exact I.ls,I.on,I.os,I.ap,I.IW,I.size,(ru.refl _ _ _).drewN _⟩
   try rw[Kv]
   replace I0:=I0 (n1+nq);generalize w.drewN (n1+nq)=wd at I0⊢;have NF:=I0.size;have d3:=qf.cell I0.ls (i:=3) rfl;clear I K K4 sl sl2 sl3 hcv ahi c0 c2 c3 c5 sZ A7 VV ahh
   go_wp2_with(first|(at_builtin;refine wpList_append_own_at _ rfl _ _ 53 rfl B 9 is (.string ⟨#[]⟩) 1 16 underlying53 his aqY aqZ aq0 rfl au _ _ _ rfl (I0.on.alloc _) ⟨wd.heap.size,0,none⟩ 1 1 [.string ⟨nm.toArray⟩] rfl rfl (cell_one_new _ _ _) (afe _) bH ae az ?_;intro v1 w1 GG BG _ acA;obtain⟨g1,p1,rfl⟩:=Bz GG ae;obtain⟨I1,x3,f3⟩:=I0.arC Mc RP L_ GG BG acA;have Iq:=I1.size;have d4:=qf.cell I1.ls (i:=4) rfl;clear BG GG acA)|(at_builtin;refine wpList_append_own_at _ rfl _ _ 22 rfl B 3 ii (.int .i64 0) 1 8 underlying22 hii aq1 aq2 aq3 rfl au _ _ _ rfl (I1.os.alloc _) ⟨_,0,none⟩ 1 1 [.int .i64 (z:Int)] rfl rfl (Rq _ _ _ _ ai) (aff _) bH ae (by simp at Iq⊢;omega) ?_;intro v2 w2 zC zT _ AX;obtain⟨g2,p2,rfl⟩:=Bz zC ae;obtain⟨I2,x4,f4⟩:=I1.aqX Mc RP L_ zC zT AX;have d5:=qf.cell I2.ls (i:=5) rfl;have f5:=qf.frozen I2.ls 5;have d2:=qf.cell I2.ls (i:=2) rfl;have f2:=qf.frozen I2.ls 2;clear zT zC AX))
   exact axL
 .replace hq:=hq ae;obtain⟨Yv,ec⟩:∃Yv,ns.length=Yv+1:=⟨ns.length-1,ae⟩;have hon:=I.on;obtain⟨g,cn,ev⟩:=Bz hon ae;rw[ev]at hon c3;have hla:=hon.cellAt Yv ae;rw[ZK ae]at hla;rw[show ns.length-1=Yv by omega]at hq;obtain⟨la,el⟩:∃la,ns.getD Yv []=la:=⟨_,rfl⟩;rw[el]at hla hq;rw[ec]at c3 hns;unfold uZ at hq;obtain⟨hq1,hq2⟩:=avm.1 hq;clear KW hon ev el ec ece hk hs hq KO e4 hz eS Yt hzl q0;go_enter func144,ntmps144
  go_wp2_with(first|(go_at_call 146;refine K.mono ?_;rintro q w2 ⟨rfl,j,xG⟩;obtain rfl:=xG.symm))
  go_big_quiet (fail)
  obtain⟨n1,en1⟩:∃n1,j+nq=n1:=⟨_,rfl⟩;rw[Kv,en1];clear en1;have ahi:=hcv _ (sZ n1)
  go_wp2_with fail
  go_big_quiet (fail)
  go_upto_region 11 with(first|(go_at_call 141;refine(K4 _ _).mono ?_;rintro q w' ⟨rfl,tH⟩;obtain rfl:=tH.symm))
  have I0:∀n,LsJ B w (w.drewN n) lb b off ct u pl a vN vS ns zs S:=λn=>⟨by rw[<-ES.out];exact I.ls,I.on,I.os,I.ap,I.IW,I.size,(ru.refl _ _ _).drewN _⟩
  try rw[Kv]
  replace I0:=I0 (n1+nq);generalize w.drewN (n1+nq)=wd at I0⊢;have NF:=I0.size;have d3:=qf.cell I0.ls (i:=3) rfl;clear I K K4 sl sl2 sl3 hcv ahi c0 c2 c3 c5 sZ A7 VV ahh
  go_wp2_with(first|(at_builtin;refine wpList_append_own_at _ rfl _ _ 53 rfl B 9 is (.string ⟨#[]⟩) 1 16 underlying53 his aqY aqZ aq0 rfl au _ _ _ rfl (I0.on.alloc _) ⟨wd.heap.size,0,none⟩ 1 1 [.string ⟨nm.toArray⟩] rfl rfl (cell_one_new _ _ _) (afe _) bH ae az ?_;intro v1 w1 GG BG _ acA;obtain⟨g1,p1,rfl⟩:=Bz GG ae;obtain⟨I1,x3,f3⟩:=I0.arC Mc RP L_ GG BG acA;have Iq:=I1.size;have d4:=qf.cell I1.ls (i:=4) rfl;clear BG GG acA)|(at_builtin;refine wpList_append_own_at _ rfl _ _ 22 rfl B 3 ii (.int .i64 0) 1 8 underlying22 hii aq1 aq2 aq3 rfl au _ _ _ rfl (I1.os.alloc _) ⟨_,0,none⟩ 1 1 [.int .i64 (z:Int)] rfl rfl (Rq _ _ _ _ ai) (aff _) bH ae (by simp at Iq⊢;omega) ?_;intro v2 w2 zC zT _ AX;obtain⟨g2,p2,rfl⟩:=Bz zC ae;obtain⟨I2,x4,f4⟩:=I1.aqX Mc RP L_ zC zT AX;have d5:=qf.cell I2.ls (i:=5) rfl;have f5:=qf.frozen I2.ls 5;have d2:=qf.cell I2.ls (i:=2) rfl;have f2:=qf.frozen I2.ls 2;clear zT zC AX))
  exact axL

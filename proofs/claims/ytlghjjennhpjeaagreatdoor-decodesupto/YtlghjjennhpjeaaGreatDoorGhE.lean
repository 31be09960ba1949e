import Derived.Test.YtlghjjennhpjeaaGreatDoorAa
import Derived.Conc.WgGenN3
set_option maxHeartbeats 8000000
set_option maxRecDepth 100000
namespace Go.Gh
open Go.Conc Go.ConcN Go.RowKit Go.Conc.Lib Go.ConcR.Gen Go.ConcN.Gen
open Go.ConcR (KK wgBlock WgAt stA smA rd wr mk Payload DC0)
def RL(ty:aG)(Wg:Nat)(w w₁:ah):Prop:=WgLive ty Wg w->WgLive ty Wg w₁
theorem qx{ty:aG}{Wg:Nat}{w w₁:ah}(h:WgLive ty Wg w)(r:RL ty Wg w w₁):WgLive ty Wg w₁:=r h
section
variable (P:aP)(ty:aG)(Wg:Nat)(gT:aI)
def aje(g:aI)(_:ah):Prop:=g.status=.running/\g=gT
def AKe(g:aI)(w:ah):Prop:=g.status=.running/\∃g',stepG P true g w=.go g' w #[mk .enable]/\∃m,(Goes P true (RL ty Wg) DC0) (aje gT) m g' w
def ARd(g:aI)(w:ah):Prop:=g.status=.running/\∃g',stepG P true g w=.go g' w #[mk (.read (smA Wg))]/\∃m,(Goes P true (RL ty Wg) DC0) (AKe P ty Wg gT) m g' w
def AA1(g:aI)(w:ah):Prop:=g.status=.running/\∀v:Nat,v<2147483647->WgAt ty Wg w (v*KK) 0->
 ∃g',stepG P true g w=.go g' (w.setCell (stA Wg) (.int .u64 ((v+1)*KK))) #[rd (stA Wg),wr (stA Wg)]/\
  (v=0->∃m,(Goes P true (RL ty Wg) DC0) (ARd P ty Wg gT) m g' (w.setCell (stA Wg) (.int .u64 ((v+1)*KK))))/\(v≠0->∃m,(Goes P true (RL ty Wg) DC0) (AKe P ty Wg gT) m g' (w.setCell (stA Wg) (.int .u64 ((v+1)*KK))))
def AKd(g:aI)(w:ah):Prop:=g.status=.running/\∃g',stepG P true g w=.go g' w #[mk .disable]/\∃m,(Goes P true (RL ty Wg) DC0) (AA1 P ty Wg gT) m g' w
def aqM(g:aI):Prop:=∀w,WgLive ty Wg w->∃m,(Goes P true (RL ty Wg) DC0) (AKd P ty Wg gT) m g w
def aqN(g:aI)(w:ah):Prop:=g.status=.running/\∃g',stepG P true g w=.go g' w #[mk (.acquire (stA Wg))]/\∃m,(Goes P true (RL ty Wg) DC0) (aje gT) m g' w
def WKe(g:aI)(w:ah):Prop:=g.status=.running/\∃g',stepG P true g w=.go g' w #[mk .enable]/\∃m,(Goes P true (RL ty Wg) DC0) (aqN P ty Wg gT) m g' w
def WW4(g:aI)(w:ah):Prop:=g.status=.running/\(WgAt ty Wg w 0 0->∃g',stepG P true g w=.go g' w #[rd (stA Wg)]/\∃m,(Goes P true (RL ty Wg) DC0) (WKe P ty Wg gT) m g' w)
def WW3(g:aI)(w:ah):Prop:=g.status=.running/\g.offers=none/\
 ((∃st,WgAt ty Wg w st 0)->stepG P true g w=.go {g with status:=.blocked} w #[])/\
 (WgAt ty Wg w 0 1->∃g',stepG P true g w=.go g' (w.setCell (smA Wg) (.int .u32 0)) (semEvents (smA Wg))/\∃m,(Goes P true (RL ty Wg) DC0) (WW4 P ty Wg gT) m g' (w.setCell (smA Wg) (.int .u32 0)))
def WWr(g:aI)(w:ah):Prop:=g.status=.running/\∃g',stepG P true g w=.go g' w #[mk (.write (smA Wg))]/\∃m,m<=60/\(Goes P true (RL ty Wg) DC0) (WW3 P ty Wg gT) m g' w
def WW2(Anch:aI->ah->Prop)(vs:Nat)(g:aI)(w:ah):Prop:=g.status=.running/\∀v:Nat,v<2147483648->WgAt ty Wg w (v*KK) 0->
 (v=vs->∃g',stepG P true g w=.go g' (w.setCell (stA Wg) (.int .u64 (v*KK+1))) #[rd (stA Wg),wr (stA Wg)]/\∃m,(Goes P true (RL ty Wg) DC0) (WWr P ty Wg gT) m g' (w.setCell (stA Wg) (.int .u64 (v*KK+1))))/\
 (v≠vs->∃g',stepG P true g w=.go g' w #[rd (stA Wg)]/\∃m,(Goes P true (RL ty Wg) DC0) Anch m g' w)
def WW1(Anch:aI->ah->Prop)(g:aI)(w:ah):Prop:=g.status=.running/\∀v:Nat,v<2147483648->WgAt ty Wg w (v*KK) 0->∃g',stepG P true g w=.go g' w #[rd (stA Wg)]/\
 (v=0->∃m,(Goes P true (RL ty Wg) DC0) (WKe P ty Wg gT) m g' w)/\(v≠0->∃m,(Goes P true (RL ty Wg) DC0) (WW2 P ty Wg gT Anch v) m g' w)
def WKd(Anch:aI->ah->Prop)(g:aI)(w:ah):Prop:=g.status=.running/\∃g',stepG P true g w=.go g' w #[mk .disable]/\∃m,(Goes P true (RL ty Wg) DC0) Anch m g' w
def anu(g:aI):Prop:=∃Anch:aI->ah->Prop,(∀g w,Anch g w->g.status=.running)/\(∀g w,Anch g w->∃m,(Goes P true (RL ty Wg) DC0) (WW1 P ty Wg gT Anch) m g w)/\∀w,WgLive ty Wg w->∃m,(Goes P true (RL ty Wg) DC0) (WKd P ty Wg Anch) m g w
end
section
variable [Payload]{L:WgLink}{Wg:Nat}{b₀:aS}{a₀:Act}{ops₀:Array Oper}{i₀:Nat}{rest₀:aC}{k₀:dh}{cs:aT}
omit [Payload]in
theorem an9{P:aP}(H:WgLib P L):aqM P L.tWg Wg (G (b₀.at (a₀.put ((ops₀[i₀]?).bind (·.dst)) (.tuple #[])) (.inRegion ops₀ rest₀::k₀)) cs)
  (G ((base L.add).at ⟨#[.pointer (some ⟨Wg,0,none⟩),.int .i64 1,undef,undef,undef,undef,undef,undef,undef,undef,undef,undef,undef,undef,undef,undef,undef,undef,undef,undef,undef,undef,undef,undef,undef,undef,undef,undef,undef,undef,undef,undef,undef,undef,undef,undef,undef,undef,undef,undef,undef,undef,undef,undef,undef,undef,undef,undef,undef,undef,undef,undef,undef,undef,undef,undef,undef,undef,undef,undef,undef,undef,undef,undef,undef,undef,undef,undef,undef,undef,undef,undef,undef,undef,undef,undef,undef,undef,undef,undef,undef,undef,undef,undef,undef,undef,undef,undef,undef,undef,undef,undef,undef,undef,undef,undef,undef,undef,undef,undef,undef,undef,undef,undef,undef,undef,undef,undef,undef,undef,undef,undef,undef,undef,undef,undef,undef],[]⟩ [.code (body_add L)]) (b₀.at a₀ (.inRegion ops₀ (i₀::rest₀)::k₀)::cs)):=by
 intro w hF
 lib_facts
 refine⟨12,?_⟩;simp only[body_add,addFn,bf];u_c aX qx hF
 u_cond true qx hF
 u_c aX qx hF;u_c aX qx hF;u_reg qx hF;u_op qx hF;u_op qx hF;u_c bg qx hF
 u_cond false qx hF
 u_c fE qx hF;u_c aX qx hF;u_reg qx hF;refine dC (λw₁ h₁=>?_);replace hF:=qx hF h₁;clear h₁;refine⟨rfl,_,stepG_mark0 .disable aA rfl rfl (by k_ne) rfl H.f_disable (x_disable_n L) (x_disable_b L) (x_disable_x L) (x_disable_f L),40,?_⟩;walk_nrm;u_c bg qx hF;u_reg qx hF
 u_defer qx hF
 u_c bg qx hF;u_c aX qx hF;u_reg qx hF;u_op qx hF;u_c bg qx hF;u_c aX qx hF;u_c aX qx hF;u_reg qx hF
 u_bub qx hF
 u_c bg qx hF
 u_cond false qx hF
 u_c fE qx hF;u_c aX qx hF;u_reg qx hF;u_op qx hF;u_op qx hF;u_op qx hF;u_op qx hF;u_op qx hF;u_op qx hF
 u_call H.f_uAdd (nm_uAdd L) uAddFn qx hF
 u_c aX qx hF;u_reg qx hF;u_op qx hF;u_c bg qx hF;u_c aX qx hF;u_reg qx hF;u_op qx hF;u_op qx hF;u_op qx hF;u_op qx hF;refine dC (λw₂ h₁=>?_);replace hF:=qx hF h₁;clear h₁;refine⟨rfl,λv hv hw=>?_⟩;rcases gy v with rfl|hvp
 .replace hw:WgAt L.tWg Wg w₂ 0 0:=by simpa using hw
  have z:(((0:Nat):Int)+1)*KK=KK:=aA;rw[z];have e0:IntKind.u64.wrap (0+4294967296)=KK:=aB;refine⟨_,(stepG_add_atomic rfl rfl (by k_ne) rfl H.f_addU64 (x_addU64_n L) (x_addU64_b L) (x_addU64_x L) .u64 (x_addU64_f L) rfl rfl hw.cellSt (hw.thaw 0)).trans (by rw[e0];rfl),λ_=>⟨110,?_⟩,λh=>absurd rfl h⟩;replace hF:WgLive L.tWg Wg (w₂.setCell (stA Wg) (.int .u64 KK)):=⟨_,_,hw.setSt _⟩;clear hw;simp only[KK]at hF⊢;walk_nrm;u_op qx hF;u_c bg qx hF;u_c stepG_ret' qx hF
  u_leave1 H.f_uAdd qx hF
  u_op qx hF;u_c bg qx hF;u_c aX qx hF;u_c aX qx hF;u_reg qx hF;u_op qx hF;u_op qx hF;u_op qx hF;u_op qx hF;u_skip qx hF;u_skip qx hF;u_op qx hF;u_c bg qx hF
  u_cond false qx hF
  u_c fE qx hF;u_c aX qx hF;u_reg qx hF;u_op qx hF;u_op qx hF;u_op qx hF;u_op qx hF;u_c bg qx hF;u_c aX qx hF;u_reg qx hF;u_op qx hF;u_op qx hF;u_op qx hF;u_op qx hF;u_c bg qx hF;u_c aX qx hF;u_c aX qx hF;u_reg qx hF;u_op qx hF;u_op qx hF;u_op qx hF;u_op qx hF;u_op qx hF;u_op qx hF;u_op qx hF;u_op qx hF;u_op qx hF;u_op qx hF;u_c bg qx hF
  u_cond true qx hF
  u_reg qx hF;u_op qx hF;u_op qx hF;u_op qx hF
  u_conv H.underlying_tPU32 H.room_tU32 (WgLive.cell1 hF).choose_spec qx hF
  refine dC (λw₃ h₁=>?_);replace hF:=qx hF h₁;clear h₁;refine⟨rfl,_,stepG_markAt .read aA rfl rfl (by k_ne) rfl H.f_raceRead (x_raceRead_n L) (x_raceRead_b L) (x_raceRead_x L) (x_raceRead_f L) (ad:=⟨Wg,1,none⟩) jF,60,?_⟩;walk_nrm;u_c bg qx hF;u_c aX qx hF;u_c aX qx hF;u_reg qx hF;u_op qx hF;u_op qx hF;u_c bg qx hF
  u_cond false qx hF
  u_c fE qx hF;u_c aX qx hF;u_c aX qx hF;u_reg qx hF;u_op qx hF;u_op qx hF;u_op qx hF;u_skip qx hF;u_skip qx hF;u_op qx hF;u_op qx hF;u_skip qx hF;u_skip qx hF;u_skip qx hF;u_skip qx hF;u_op qx hF;u_c bg qx hF
  u_cond false qx hF
  u_c fE qx hF;u_c aX qx hF;u_c aX qx hF;u_reg qx hF;u_op qx hF;u_op qx hF;u_op qx hF;u_skip qx hF;u_skip qx hF;u_op qx hF;u_c bg qx hF
  u_cond true qx hF
  u_c stepG_ret' qx hF;refine dC (λw₅ h₁=>?_);replace hF:=qx hF h₁;clear h₁;refine⟨rfl,_,stepG_unwind_entry (v:=.tuple #[]) (evs:=#[mk .enable]) rfl H.f_enable (x_enable_n L) (x_enable_b L) (x_enable_x L) (x_enable_f L) awo gJ gJ,9,?_⟩
  u_leave0 H.f_add qx hF
  exact axn
 .obtain⟨V,hV⟩:∃V:Int,V=(v:Int)+1:=⟨_,rfl⟩;obtain⟨S,hS⟩:∃S:Int,S=V*KK:=⟨_,rfl⟩;have eS:IntKind.u64.wrap ((v:Int)*KK+4294967296)=S:=by rw[IntKind.wrap_u64,hS,hV];simp only[KK];omega
  rw[<-hV,<-hS];have a1:S/4294967296=V:=by rw[hS];simp only[KK];omega
  have b1:bits .and .u64 S 2147483648=0:=by rw[hS,hV];have:=st_flag (v+1) 0 ag ag;simpa[KK]using this
  have b2:bits .and .u64 S 2147483647=0:=by rw[hS,hV];have:=st_waiters (v+1) 0 ag ag;simpa[KK]using this
  have c1:IntKind.i32.wrap V=V:=by rw[IntKind.wrap_i32];omega
  have hV1:1<V:=ag;have hV2:V<2147483648:=ag;have q1:(V==1)=false:=aJ;have q2:decide (V=1)=false:=dY ag;have q3:decide (V<0)=false:=dY ag;have q4:decide (0<V)=true:=gV ag;have q5:(V==0)=false:=aJ;have q6:decide (V=0)=false:=dY ag;refine⟨_,(stepG_add_atomic rfl rfl (by k_ne) rfl H.f_addU64 (x_addU64_n L) (x_addU64_b L) (x_addU64_x L) .u64 (x_addU64_f L) rfl rfl hw.cellSt (hw.thaw 0)).trans (by rw[eS];rfl),λh=>absurd h ag,λ_=>⟨110,?_⟩⟩;replace hF:WgLive L.tWg Wg (w₂.setCell (stA Wg) (.int .u64 S)):=⟨_,_,hw.setSt _⟩;clear hw hS hV eS;walk_nrm;u_op qx hF;u_c bg qx hF;u_c stepG_ret' qx hF
  u_leave1 H.f_uAdd qx hF
  u_op qx hF;u_c bg qx hF;u_c aX qx hF;u_c aX qx hF;u_reg qx hF;u_op qx hF;u_op qx hF;u_op qx hF;u_op qx hF;u_skip qx hF;u_skip qx hF;u_op qx hF;u_c bg qx hF
  u_cnd false qx hF
  u_c fE qx hF;u_c aX qx hF;u_reg qx hF;u_op qx hF;u_op qx hF;u_op qx hF;u_op qx hF;u_c bg qx hF;u_c aX qx hF;u_reg qx hF;u_op qx hF;u_op qx hF;u_op qx hF;u_op qx hF;u_c bg qx hF;u_c aX qx hF;u_c aX qx hF;u_reg qx hF;u_op qx hF;u_op qx hF;u_op qx hF;u_op qx hF;u_op qx hF;u_op qx hF;u_op qx hF;u_op qx hF;u_op qx hF;u_op qx hF;u_c bg qx hF
  u_cnd false qx hF
  u_c fE qx hF;u_c aX qx hF;u_c aX qx hF;u_reg qx hF;u_op qx hF;u_op qx hF;u_c bg qx hF
  u_cnd false qx hF
  u_c fE qx hF;u_c aX qx hF;u_c aX qx hF;u_reg qx hF;u_op qx hF;u_op qx hF;u_op qx hF;u_skip qx hF;u_skip qx hF;u_op qx hF;u_op qx hF;u_skip qx hF;u_skip qx hF;u_skip qx hF;u_skip qx hF;u_op qx hF;u_c bg qx hF
  u_cnd false qx hF
  u_c fE qx hF;u_c aX qx hF;u_c aX qx hF;u_reg qx hF;u_op qx hF;u_op qx hF;u_op qx hF;u_skip qx hF;u_skip qx hF;u_op qx hF;u_c bg qx hF
  u_cnd true qx hF
  u_c stepG_ret' qx hF;refine dC (λw₅ h₁=>?_);replace hF:=qx hF h₁;clear h₁;refine⟨rfl,_,stepG_unwind_entry (v:=.tuple #[]) (evs:=#[mk .enable]) rfl H.f_enable (x_enable_n L) (x_enable_b L) (x_enable_x L) (x_enable_f L) awo gJ gJ,9,?_⟩
  u_leave0 H.f_add qx hF
  exact axn
def ajA(L:WgLink)(Wg:Nat)(c:aS)(cs:aT)(g:aI)(w:ah):Prop:=
 ∃T:aH,g=G ((base L.wait).at ⟨T,[]⟩ [.code (L7 L),.inLoop (L7 L),.inBlock 0]) (c::cs)/\T.size=84/\T[0]?=some (.pointer (some ⟨Wg,0,none⟩))/\WgLive L.tWg Wg w
omit [Payload]in
theorem adD{P:aP}(H:WgLib P L)(g:aI)(w:ah)(h:ajA L Wg (b₀.at a₀ (.inRegion ops₀ (i₀::rest₀)::k₀)) cs g w):
  ∃m,Goes P true (RL L.tWg Wg) DC0 (WW1 P L.tWg Wg (G (b₀.at (a₀.put ((ops₀[i₀]?).bind (·.dst)) (.tuple #[])) (.inRegion ops₀ rest₀::k₀)) cs) (ajA L Wg (b₀.at a₀ (.inRegion ops₀ (i₀::rest₀)::k₀)) cs)) m g w:=by
 lib_facts
 obtain⟨T,rfl,as4,t0,hF⟩:=h;obtain⟨v0,v1,v2,v3,v4,v5,v6,v7,v8,v9,v10,v11,v12,VP,Xf,S9,S_,Tc,PS,PU,v20,v21,v22,TK,v24,TL,v26,ZZ,v28,v29,v30,v31,v32,v33,v34,v35,v36,v37,v38,v39,v40,v41,v42,v43,v44,v45,v46,v47,v48,v49,v50,v51,v52,v53,v54,v55,v56,v57,v58,v59,v60,v61,v62,v63,v64,v65,v66,v67,v68,v69,v70,v71,v72,v73,v74,v75,v76,v77,v78,v79,v80,v81,v82,v83,rfl⟩:=array84 T as4;simp only[oZ,jg,gW]at t0;subst t0;refine⟨30,?_⟩;simp only[L7,body_wait,waitFn,bf];u_c lK qx hF;u_c aX qx hF;u_reg qx hF;u_op qx hF;u_op qx hF;u_op qx hF
 u_call H.f_uLoad (nm_uLoad L) uLoadFn qx hF
 u_c aX qx hF;u_reg qx hF;u_op qx hF;u_c bg qx hF;u_c aX qx hF;u_reg qx hF;u_op qx hF;u_op qx hF;u_op qx hF;refine dC (λw₁ h₁=>?_);replace hF:=qx hF h₁;clear h₁;refine⟨rfl,λv hv hw=>?_⟩;rcases gy v with rfl|hvp
 .replace hw:WgAt L.tWg Wg w₁ 0 0:=by simpa using hw
  refine⟨_,stepG_load_atomic (v:=0) rfl rfl (by k_ne) rfl H.f_loadU64 (x_loadU64_n L) (x_loadU64_b L) (x_loadU64_x L) .u64 (x_loadU64_f L) rfl hw.cellSt,λ_=>⟨50,?_⟩,λh=>absurd rfl h⟩;clear hw;walk_nrm;u_op qx hF;u_c bg qx hF;u_c stepG_ret' qx hF
  u_leave1 H.f_uLoad qx hF
  u_op qx hF;u_c bg qx hF;u_c aX qx hF;u_reg qx hF;u_op qx hF;u_op qx hF;u_op qx hF;u_op qx hF;u_c bg qx hF;u_c aX qx hF;u_reg qx hF;u_op qx hF;u_op qx hF;u_op qx hF;u_op qx hF;u_c bg qx hF;u_c aX qx hF;u_c aX qx hF;u_reg qx hF;u_op qx hF;u_op qx hF;u_c bg qx hF
  u_cond true qx hF
  u_c aX qx hF
  u_cond true qx hF
  u_c aX qx hF;u_reg qx hF;refine dC (λw₂ h₁=>?_);replace hF:=qx hF h₁;clear h₁;refine⟨rfl,_,stepG_mark0 .enable aA rfl rfl (by k_ne) rfl H.f_enable (x_enable_n L) (x_enable_b L) (x_enable_x L) (x_enable_f L),12,?_⟩;walk_nrm;u_c bg qx hF;u_reg qx hF;u_op qx hF
  u_conv H.underlying_tWgP H.room_tWg (WgLive.cell0 hF).choose_spec qx hF
  refine dC (λw₃ h₁=>?_);replace hF:=qx hF h₁;clear h₁;refine⟨rfl,_,stepG_markAt .acquire aA rfl rfl (by k_ne) rfl H.f_acquire (x_acquire_n L) (x_acquire_b L) (x_acquire_x L) (x_acquire_f L) (by simp[Act.eval,stA]),⟨40,?_⟩⟩;walk_nrm;u_c bg qx hF;u_c aX qx hF;u_c aX qx hF;u_reg qx hF;u_op qx hF;u_op qx hF;u_op qx hF;u_op qx hF;u_op qx hF;u_op qx hF;u_op qx hF;u_op qx hF;u_skip qx hF;u_skip qx hF;u_op qx hF;u_c bg qx hF
  u_cond false qx hF
  u_c fE qx hF;u_c stepG_ret' qx hF
  u_leave0 H.f_wait qx hF
  exact axn
 .obtain⟨S,hS⟩:∃S:Int,(v:Int)*KK=S:=⟨_,rfl⟩;have a1:S/4294967296=(v:Int):=awQ;have b1:bits .and .u64 S 2147483648=0:=by rw[<-hS];have:=st_flag v 0 ag ag;simpa[KK]using this
  have b2:bits .and .u64 S 2147483647=0:=by rw[<-hS];have:=st_waiters v 0 ag ag;simpa[KK]using this
  have c1:IntKind.i32.wrap (v:Int)=(v:Int):=by rw[IntKind.wrap_i32];omega
  have w1:IntKind.u64.wrap (S+1)=S+1:=by rw[IntKind.wrap_u64,<-hS];simp only[KK];omega
  have q3:decide ((v:Int)<0)=false:=dY ag;have q4:decide (0<(v:Int))=true:=gV ag;have q5:((v:Int)==0)=false:=aJ;have q6:decide ((v:Int)=0)=false:=dY ag;rw[hS]at hw;refine⟨_,stepG_load_atomic (v:=S) rfl rfl (by k_ne) rfl H.f_loadU64 (x_loadU64_n L) (x_loadU64_b L) (x_loadU64_x L) .u64 (x_loadU64_f L) rfl hw.cellSt,λh0=>absurd h0 ag,λ_=>⟨60,?_⟩⟩;clear hw;walk_nrm;u_op qx hF;u_c bg qx hF;u_c stepG_ret' qx hF
  u_leave1 H.f_uLoad qx hF
  u_op qx hF;u_c bg qx hF;u_c aX qx hF;u_reg qx hF;u_op qx hF;u_op qx hF;u_op qx hF;u_op qx hF;u_c bg qx hF;u_c aX qx hF;u_reg qx hF;u_op qx hF;u_op qx hF;u_op qx hF;u_op qx hF;u_c bg qx hF;u_c aX qx hF;u_c aX qx hF;u_reg qx hF;u_op qx hF;u_op qx hF;u_c bg qx hF
  u_cnd false qx hF
  u_c fE qx hF;u_c aX qx hF;u_reg qx hF;u_op qx hF;u_op qx hF;u_op qx hF;u_op qx hF;u_op qx hF;u_op qx hF
  u_call H.f_uCas (nm_uCas L) uCasFn qx hF
  u_c aX qx hF;u_reg qx hF;u_op qx hF;u_c bg qx hF;u_c aX qx hF;u_reg qx hF;u_op qx hF;u_op qx hF;u_op qx hF;u_op qx hF;u_op qx hF;refine dC (λw₂ h₁=>?_);replace hF:=qx hF h₁;clear h₁;refine⟨rfl,λv' hv' hw=>⟨λe=>?_,λe=>?_⟩⟩
  .subst e;rw[hS]at hw⊢;refine⟨_,(stepG_cas_hit (v:=S) (n:=S+1) rfl rfl (by k_ne) rfl H.f_casU64 (x_casU64_n L) (x_casU64_b L) (x_casU64_x L) .u64 (x_casU64_f L) rfl rfl rfl hw.cellSt (hw.thaw 0)).trans aF,70,?_⟩;replace hF:WgLive L.tWg Wg (w₂.setCell (stA Wg) (.int .u64 (S+1))):=⟨_,_,hw.setSt _⟩;clear hw;walk_nrm;u_op qx hF;u_c bg qx hF;u_c stepG_ret' qx hF
   u_leave1 H.f_uCas qx hF
   u_c bg qx hF
   u_cond true qx hF
   u_c aX qx hF;u_c aX qx hF;u_reg qx hF;u_op qx hF;u_op qx hF;u_op qx hF;u_op qx hF;u_c bg qx hF
   u_cond true qx hF
   u_reg qx hF;u_op qx hF;u_op qx hF;u_op qx hF
   u_conv H.underlying_tPU32 H.room_tU32 (WgLive.cell1 hF).choose_spec qx hF
   refine dC (λw₃ h₁=>?_);replace hF:=qx hF h₁;clear h₁;refine⟨rfl,_,stepG_markAt .write aA rfl rfl (by k_ne) rfl H.f_raceWrite (x_raceWrite_n L) (x_raceWrite_b L) (x_raceWrite_x L) (x_raceWrite_f L) (ad:=⟨Wg,1,none⟩) jF,60,ay _,?_⟩;walk_nrm;u_c bg qx hF;u_c aX qx hF;u_reg qx hF;u_op qx hF;u_c bg qx hF;u_c aX qx hF;u_c aX qx hF;u_reg qx hF;u_op qx hF;u_op qx hF;u_op qx hF;u_op qx hF;u_skip qx hF;u_op qx hF;u_c bg qx hF
   u_cond false qx hF
   u_c fE qx hF;u_c aX qx hF;u_reg qx hF;u_op qx hF;u_op qx hF;u_op qx hF;u_op qx hF;refine dC (λw₄ h₁=>?_);replace hF:=qx hF h₁;clear h₁;refine⟨rfl,rfl,λ⟨st,hw⟩=>stepG_semacquire_wait rfl rfl rfl H.f_semacquire (x_semacquire_n L) (x_semacquire_b L) (x_semacquire_x L) (x_semacquire_f L) (by simp[Act.eval,smA]) hw.cellSm,λhf=>?_⟩;refine⟨_,(stepG_semacquire (n:=1) rfl rfl (by k_ne) rfl H.f_semacquire (x_semacquire_n L) (x_semacquire_b L) (x_semacquire_x L) (x_semacquire_f L) (by simp[Act.eval,smA]) hf.cellSm (by k_ne) (hf.thaw 1)).trans aF,30,?_⟩;replace hF:WgLive L.tWg Wg (w₄.setCell (smA Wg) (.int .u32 0)):=⟨_,_,hf.setSm 0⟩;clear hf;walk_nrm;u_c bg qx hF;u_c aX qx hF;u_reg qx hF;u_op qx hF;u_op qx hF;u_op qx hF
   u_call H.f_uLoad (nm_uLoad L) uLoadFn qx hF
   u_c aX qx hF;u_reg qx hF;u_op qx hF;u_c bg qx hF;u_c aX qx hF;u_reg qx hF;u_op qx hF;u_op qx hF;u_op qx hF;refine dC (λw₅ h₁=>?_);replace hF:=qx hF h₁;clear h₁;refine⟨rfl,λhw=>⟨_,stepG_load_atomic (v:=0) rfl rfl (by k_ne) rfl H.f_loadU64 (x_loadU64_n L) (x_loadU64_b L) (x_loadU64_x L) .u64 (x_loadU64_f L) rfl hw.cellSt,30,?_⟩⟩;clear hw;walk_nrm;u_op qx hF;u_c bg qx hF;u_c stepG_ret' qx hF
   u_leave1 H.f_uLoad qx hF
   u_op qx hF;u_op qx hF;u_c bg qx hF;u_c aX qx hF
   u_cond true qx hF
   u_c aX qx hF;u_reg qx hF;refine dC (λw₆ h₁=>?_);replace hF:=qx hF h₁;clear h₁;refine⟨rfl,_,stepG_mark0 .enable aA rfl rfl (by k_ne) rfl H.f_enable (x_enable_n L) (x_enable_b L) (x_enable_x L) (x_enable_f L),12,?_⟩;walk_nrm;u_c bg qx hF;u_reg qx hF;u_op qx hF
   u_conv H.underlying_tWgP H.room_tWg (WgLive.cell0 hF).choose_spec qx hF
   refine dC (λw₇ h₁=>?_);replace hF:=qx hF h₁;clear h₁;refine⟨rfl,_,stepG_markAt .acquire aA rfl rfl (by k_ne) rfl H.f_acquire (x_acquire_n L) (x_acquire_b L) (x_acquire_x L) (x_acquire_f L) (by simp[Act.eval,stA]),⟨40,?_⟩⟩;walk_nrm;u_c bg qx hF;u_c aX qx hF;u_c aX qx hF;u_reg qx hF;u_op qx hF;u_c bg qx hF
   u_cond false qx hF
   u_c fE qx hF;u_c stepG_ret' qx hF
   u_leave0 H.f_wait qx hF
   exact axn
  .refine⟨_,stepG_cas_miss (v:=(v':Int)*KK) (old:=S) (n:=S+1) rfl rfl (by k_ne) rfl H.f_casU64 (x_casU64_n L) (x_casU64_b L) (x_casU64_x L) .u64 (x_casU64_f L) rfl rfl rfl hw.cellSt (hw.thaw 0) awQ,20,?_⟩;clear hw;walk_nrm;u_op qx hF;u_c bg qx hF;u_c stepG_ret' qx hF
   u_leave1 H.f_uCas qx hF
   u_c bg qx hF
   u_cond false qx hF
   u_c fE qx hF;u_c stepG_inBlock qx hF;u_c stepG_inLoop qx hF;exact dC (λw₃ h₁=>⟨_,rfl,aA,aA,qx hF h₁⟩)
omit [Payload]in
theorem aif{P:aP}(H:WgLib P L):anu P L.tWg Wg (G (b₀.at (a₀.put ((ops₀[i₀]?).bind (·.dst)) (.tuple #[])) (.inRegion ops₀ rest₀::k₀)) cs)
  (G ((base L.wait).at ⟨#[.pointer (some ⟨Wg,0,none⟩),undef,undef,undef,undef,undef,undef,undef,undef,undef,undef,undef,undef,undef,undef,undef,undef,undef,undef,undef,undef,undef,undef,undef,undef,undef,undef,undef,undef,undef,undef,undef,undef,undef,undef,undef,undef,undef,undef,undef,undef,undef,undef,undef,undef,undef,undef,undef,undef,undef,undef,undef,undef,undef,undef,undef,undef,undef,undef,undef,undef,undef,undef,undef,undef,undef,undef,undef,undef,undef,undef,undef,undef,undef,undef,undef,undef,undef,undef,undef,undef,undef,undef,undef],[]⟩ [.code (body_wait L)]) (b₀.at a₀ (.inRegion ops₀ (i₀::rest₀)::k₀)::cs)):=by
 refine⟨ajA L Wg (b₀.at a₀ (.inRegion ops₀ (i₀::rest₀)::k₀)) cs,λg w h=>by obtain⟨T,rfl,_⟩:=h;rfl,λg w h=>adD H g w h,λw hF=>⟨3,?_⟩⟩
 lib_facts
 simp only[body_wait,waitFn,bf];u_c aX qx hF
 u_cond true qx hF
 u_reg qx hF;refine dC (λw₁ h₁=>?_);replace hF:=qx hF h₁;clear h₁;refine⟨rfl,_,stepG_mark0 .disable aA rfl rfl (by k_ne) rfl H.f_disable (x_disable_n L) (x_disable_b L) (x_disable_x L) (x_disable_f L),3,?_⟩;walk_nrm;u_c bg qx hF;u_c lK qx hF;u_c stepG_loop qx hF;exact dC (λw₂ h₁=>⟨_,rfl,aA,aA,qx hF h₁⟩)
end
#print axioms an9
#print axioms aif

import Derived.Test.YtnbflnamlpodcaaGreatDoorAa
import Derived.Conc.WgGenN3
set_option maxHeartbeats 8000000
set_option maxRecDepth 100000
namespace Go.Gh
open Go.Conc Go.ConcN Go.RowKit Go.Conc.Lib Go.ConcR.Gen Go.ConcN.Gen
open Go.ConcR (KK wgBlock WgAt stA smA rd wr mk Payload DC0)
def RL(ty:aF)(Wg:Nat)(w w₁:ah):Prop:=WgLive ty Wg w->WgLive ty Wg w₁
theorem qB{ty:aF}{Wg:Nat}{w w₁:ah}(h:WgLive ty Wg w)(r:RL ty Wg w w₁):WgLive ty Wg w₁:=r h
section
variable (P:aN)(ty:aF)(Wg:Nat)(gT:aG)
def ajL(g:aG)(_:ah):Prop:=g.status=.running/\g=gT
def AKe(g:aG)(w:ah):Prop:=g.status=.running/\∃g',stepG P true g w=.go g' w #[mk .enable]/\∃m,(Goes P true (RL ty Wg) DC0) (ajL gT) m g' w
def ARd(g:aG)(w:ah):Prop:=g.status=.running/\∃g',stepG P true g w=.go g' w #[mk (.read (smA Wg))]/\∃m,(Goes P true (RL ty Wg) DC0) (AKe P ty Wg gT) m g' w
def AA1(g:aG)(w:ah):Prop:=g.status=.running/\∀v:Nat,v<2147483647->WgAt ty Wg w (v*KK) 0->
 ∃g',stepG P true g w=.go g' (w.setCell (stA Wg) (.int .u64 ((v+1)*KK))) #[rd (stA Wg),wr (stA Wg)]/\
  (v=0->∃m,(Goes P true (RL ty Wg) DC0) (ARd P ty Wg gT) m g' (w.setCell (stA Wg) (.int .u64 ((v+1)*KK))))/\(v≠0->∃m,(Goes P true (RL ty Wg) DC0) (AKe P ty Wg gT) m g' (w.setCell (stA Wg) (.int .u64 ((v+1)*KK))))
def AKd(g:aG)(w:ah):Prop:=g.status=.running/\∃g',stepG P true g w=.go g' w #[mk .disable]/\∃m,(Goes P true (RL ty Wg) DC0) (AA1 P ty Wg gT) m g' w
def aru(g:aG):Prop:=∀w,WgLive ty Wg w->∃m,(Goes P true (RL ty Wg) DC0) (AKd P ty Wg gT) m g w
def arv(g:aG)(w:ah):Prop:=g.status=.running/\∃g',stepG P true g w=.go g' w #[mk (.acquire (stA Wg))]/\∃m,(Goes P true (RL ty Wg) DC0) (ajL gT) m g' w
def WKe(g:aG)(w:ah):Prop:=g.status=.running/\∃g',stepG P true g w=.go g' w #[mk .enable]/\∃m,(Goes P true (RL ty Wg) DC0) (arv P ty Wg gT) m g' w
def WW4(g:aG)(w:ah):Prop:=g.status=.running/\(WgAt ty Wg w 0 0->∃g',stepG P true g w=.go g' w #[rd (stA Wg)]/\∃m,(Goes P true (RL ty Wg) DC0) (WKe P ty Wg gT) m g' w)
def WW3(g:aG)(w:ah):Prop:=g.status=.running/\g.offers=none/\
 ((∃st,WgAt ty Wg w st 0)->stepG P true g w=.go {g with status:=.blocked} w #[])/\
 (WgAt ty Wg w 0 1->∃g',stepG P true g w=.go g' (w.setCell (smA Wg) (.int .u32 0)) (semEvents (smA Wg))/\∃m,(Goes P true (RL ty Wg) DC0) (WW4 P ty Wg gT) m g' (w.setCell (smA Wg) (.int .u32 0)))
def WWr(g:aG)(w:ah):Prop:=g.status=.running/\∃g',stepG P true g w=.go g' w #[mk (.write (smA Wg))]/\∃m,m<=60/\(Goes P true (RL ty Wg) DC0) (WW3 P ty Wg gT) m g' w
def WW2(Anch:aG->ah->Prop)(vs:Nat)(g:aG)(w:ah):Prop:=g.status=.running/\∀v:Nat,v<2147483648->WgAt ty Wg w (v*KK) 0->
 (v=vs->∃g',stepG P true g w=.go g' (w.setCell (stA Wg) (.int .u64 (v*KK+1))) #[rd (stA Wg),wr (stA Wg)]/\∃m,(Goes P true (RL ty Wg) DC0) (WWr P ty Wg gT) m g' (w.setCell (stA Wg) (.int .u64 (v*KK+1))))/\
 (v≠vs->∃g',stepG P true g w=.go g' w #[rd (stA Wg)]/\∃m,(Goes P true (RL ty Wg) DC0) Anch m g' w)
def WW1(Anch:aG->ah->Prop)(g:aG)(w:ah):Prop:=g.status=.running/\∀v:Nat,v<2147483648->WgAt ty Wg w (v*KK) 0->∃g',stepG P true g w=.go g' w #[rd (stA Wg)]/\
 (v=0->∃m,(Goes P true (RL ty Wg) DC0) (WKe P ty Wg gT) m g' w)/\(v≠0->∃m,(Goes P true (RL ty Wg) DC0) (WW2 P ty Wg gT Anch v) m g' w)
def WKd(Anch:aG->ah->Prop)(g:aG)(w:ah):Prop:=g.status=.running/\∃g',stepG P true g w=.go g' w #[mk .disable]/\∃m,(Goes P true (RL ty Wg) DC0) Anch m g' w
def an1(g:aG):Prop:=∃Anch:aG->ah->Prop,(∀g w,Anch g w->g.status=.running)/\(∀g w,Anch g w->∃m,(Goes P true (RL ty Wg) DC0) (WW1 P ty Wg gT Anch) m g w)/\∀w,WgLive ty Wg w->∃m,(Goes P true (RL ty Wg) DC0) (WKd P ty Wg Anch) m g w
end
section
variable [Payload]{L:WgLink}{Wg:Nat}{b₀:aJ}{a₀:Act}{ops₀:Array Oper}{i₀:Nat}{rest₀:aA}{k₀:b_}{cs:aP}
omit [Payload]in
theorem aoJ{P:aN}(H:WgLib P L):aru P L.tWg Wg (G (b₀.at (a₀.put ((ops₀[i₀]?).bind (·.dst)) (.tuple #[])) (.inRegion ops₀ rest₀::k₀)) cs)
  (G ((base L.add).at ⟨#[.pointer (some ⟨Wg,0,none⟩),.int .i64 1,undef,undef,undef,undef,undef,undef,undef,undef,undef,undef,undef,undef,undef,undef,undef,undef,undef,undef,undef,undef,undef,undef,undef,undef,undef,undef,undef,undef,undef,undef,undef,undef,undef,undef,undef,undef,undef,undef,undef,undef,undef,undef,undef,undef,undef,undef,undef,undef,undef,undef,undef,undef,undef,undef,undef,undef,undef,undef,undef,undef,undef,undef,undef,undef,undef,undef,undef,undef,undef,undef,undef,undef,undef,undef,undef,undef,undef,undef,undef,undef,undef,undef,undef,undef,undef,undef,undef,undef,undef,undef,undef,undef,undef,undef,undef,undef,undef,undef,undef,undef,undef,undef,undef,undef,undef,undef,undef,undef,undef,undef,undef,undef,undef,undef,undef],[]⟩ [.code (body_add L)]) (b₀.at a₀ (.inRegion ops₀ (i₀::rest₀)::k₀)::cs)):=by
 intro w hF
 lib_facts
 refine⟨12,?_⟩;simp only[body_add,addFn,aQ];u_c aW qB hF
 u_cond true qB hF
 u_c aW qB hF;u_c aW qB hF;u_reg qB hF;u_op qB hF;u_op qB hF;u_c bf qB hF
 u_cond false qB hF
 u_c fB qB hF;u_c aW qB hF;u_reg qB hF;refine dF (λw₁ h₁=>?_);replace hF:=qB hF h₁;clear h₁;refine⟨rfl,_,stepG_mark0 .disable ax rfl rfl (by k_ne) rfl H.f_disable (x_disable_n L) (x_disable_b L) (x_disable_x L) (x_disable_f L),40,?_⟩;walk_nrm;u_c bf qB hF;u_reg qB hF
 u_defer qB hF
 u_c bf qB hF;u_c aW qB hF;u_reg qB hF;u_op qB hF;u_c bf qB hF;u_c aW qB hF;u_c aW qB hF;u_reg qB hF
 u_bub qB hF
 u_c bf qB hF
 u_cond false qB hF
 u_c fB qB hF;u_c aW qB hF;u_reg qB hF;u_op qB hF;u_op qB hF;u_op qB hF;u_op qB hF;u_op qB hF;u_op qB hF
 u_call H.f_uAdd (nm_uAdd L) uAddFn qB hF
 u_c aW qB hF;u_reg qB hF;u_op qB hF;u_c bf qB hF;u_c aW qB hF;u_reg qB hF;u_op qB hF;u_op qB hF;u_op qB hF;u_op qB hF;refine dF (λw₂ h₁=>?_);replace hF:=qB hF h₁;clear h₁;refine⟨rfl,λv hv hw=>?_⟩;rcases fE v with rfl|hvp
 .replace hw:WgAt L.tWg Wg w₂ 0 0:=by simpa using hw
  have z:(((0:Nat):Int)+1)*KK=KK:=ax;rw[z];have e0:IntKind.u64.wrap (0+4294967296)=KK:=aC;refine⟨_,(stepG_add_atomic rfl rfl (by k_ne) rfl H.f_addU64 (x_addU64_n L) (x_addU64_b L) (x_addU64_x L) .u64 (x_addU64_f L) rfl rfl hw.cellSt (hw.thaw 0)).trans (by rw[e0];rfl),λ_=>⟨110,?_⟩,λh=>absurd rfl h⟩;replace hF:WgLive L.tWg Wg (w₂.setCell (stA Wg) (.int .u64 KK)):=⟨_,_,hw.setSt _⟩;clear hw;simp only[KK]at hF⊢;walk_nrm;u_op qB hF;u_c bf qB hF;u_c stepG_ret' qB hF
  u_leave1 H.f_uAdd qB hF
  u_op qB hF;u_c bf qB hF;u_c aW qB hF;u_c aW qB hF;u_reg qB hF;u_op qB hF;u_op qB hF;u_op qB hF;u_op qB hF;u_skip qB hF;u_skip qB hF;u_op qB hF;u_c bf qB hF
  u_cond false qB hF
  u_c fB qB hF;u_c aW qB hF;u_reg qB hF;u_op qB hF;u_op qB hF;u_op qB hF;u_op qB hF;u_c bf qB hF;u_c aW qB hF;u_reg qB hF;u_op qB hF;u_op qB hF;u_op qB hF;u_op qB hF;u_c bf qB hF;u_c aW qB hF;u_c aW qB hF;u_reg qB hF;u_op qB hF;u_op qB hF;u_op qB hF;u_op qB hF;u_op qB hF;u_op qB hF;u_op qB hF;u_op qB hF;u_op qB hF;u_op qB hF;u_c bf qB hF
  u_cond true qB hF
  u_reg qB hF;u_op qB hF;u_op qB hF;u_op qB hF
  u_conv H.underlying_tPU32 H.room_tU32 (WgLive.cell1 hF).choose_spec qB hF
  refine dF (λw₃ h₁=>?_);replace hF:=qB hF h₁;clear h₁;refine⟨rfl,_,stepG_markAt .read ax rfl rfl (by k_ne) rfl H.f_raceRead (x_raceRead_n L) (x_raceRead_b L) (x_raceRead_x L) (x_raceRead_f L) (ad:=⟨Wg,1,none⟩) gI,60,?_⟩;walk_nrm;u_c bf qB hF;u_c aW qB hF;u_c aW qB hF;u_reg qB hF;u_op qB hF;u_op qB hF;u_c bf qB hF
  u_cond false qB hF
  u_c fB qB hF;u_c aW qB hF;u_c aW qB hF;u_reg qB hF;u_op qB hF;u_op qB hF;u_op qB hF;u_skip qB hF;u_skip qB hF;u_op qB hF;u_op qB hF;u_skip qB hF;u_skip qB hF;u_skip qB hF;u_skip qB hF;u_op qB hF;u_c bf qB hF
  u_cond false qB hF
  u_c fB qB hF;u_c aW qB hF;u_c aW qB hF;u_reg qB hF;u_op qB hF;u_op qB hF;u_op qB hF;u_skip qB hF;u_skip qB hF;u_op qB hF;u_c bf qB hF
  u_cond true qB hF
  u_c stepG_ret' qB hF;refine dF (λw₅ h₁=>?_);replace hF:=qB hF h₁;clear h₁;refine⟨rfl,_,stepG_unwind_entry (v:=.tuple #[]) (evs:=#[mk .enable]) rfl H.f_enable (x_enable_n L) (x_enable_b L) (x_enable_x L) (x_enable_f L) axq ig ig,9,?_⟩
  u_leave0 H.f_add qB hF
  exact ays
 .obtain⟨V,hV⟩:∃V:Int,V=(v:Int)+1:=⟨_,rfl⟩;obtain⟨S,hS⟩:∃S:Int,S=V*KK:=⟨_,rfl⟩;have eS:IntKind.u64.wrap ((v:Int)*KK+4294967296)=S:=by rw[IntKind.wrap_u64,hS,hV];simp only[KK];omega
  rw[<-hV,<-hS];have a1:S/4294967296=V:=by rw[hS];simp only[KK];omega
  have b1:bits .and .u64 S 2147483648=0:=by rw[hS,hV];have:=st_flag (v+1) 0 ag ag;simpa[KK]using this
  have b2:bits .and .u64 S 2147483647=0:=by rw[hS,hV];have:=st_waiters (v+1) 0 ag ag;simpa[KK]using this
  have c1:IntKind.i32.wrap V=V:=by rw[IntKind.wrap_i32];omega
  have hV1:1<V:=ag;have hV2:V<2147483648:=ag;have q1:(V==1)=false:=aS;have q2:decide (V=1)=false:=fD ag;have q3:decide (V<0)=false:=fD ag;have q4:decide (0<V)=true:=ja ag;have q5:(V==0)=false:=aS;have q6:decide (V=0)=false:=fD ag;refine⟨_,(stepG_add_atomic rfl rfl (by k_ne) rfl H.f_addU64 (x_addU64_n L) (x_addU64_b L) (x_addU64_x L) .u64 (x_addU64_f L) rfl rfl hw.cellSt (hw.thaw 0)).trans (by rw[eS];rfl),λh=>absurd h ag,λ_=>⟨110,?_⟩⟩;replace hF:WgLive L.tWg Wg (w₂.setCell (stA Wg) (.int .u64 S)):=⟨_,_,hw.setSt _⟩;clear hw hS hV eS;walk_nrm;u_op qB hF;u_c bf qB hF;u_c stepG_ret' qB hF
  u_leave1 H.f_uAdd qB hF
  u_op qB hF;u_c bf qB hF;u_c aW qB hF;u_c aW qB hF;u_reg qB hF;u_op qB hF;u_op qB hF;u_op qB hF;u_op qB hF;u_skip qB hF;u_skip qB hF;u_op qB hF;u_c bf qB hF
  u_cnd false qB hF
  u_c fB qB hF;u_c aW qB hF;u_reg qB hF;u_op qB hF;u_op qB hF;u_op qB hF;u_op qB hF;u_c bf qB hF;u_c aW qB hF;u_reg qB hF;u_op qB hF;u_op qB hF;u_op qB hF;u_op qB hF;u_c bf qB hF;u_c aW qB hF;u_c aW qB hF;u_reg qB hF;u_op qB hF;u_op qB hF;u_op qB hF;u_op qB hF;u_op qB hF;u_op qB hF;u_op qB hF;u_op qB hF;u_op qB hF;u_op qB hF;u_c bf qB hF
  u_cnd false qB hF
  u_c fB qB hF;u_c aW qB hF;u_c aW qB hF;u_reg qB hF;u_op qB hF;u_op qB hF;u_c bf qB hF
  u_cnd false qB hF
  u_c fB qB hF;u_c aW qB hF;u_c aW qB hF;u_reg qB hF;u_op qB hF;u_op qB hF;u_op qB hF;u_skip qB hF;u_skip qB hF;u_op qB hF;u_op qB hF;u_skip qB hF;u_skip qB hF;u_skip qB hF;u_skip qB hF;u_op qB hF;u_c bf qB hF
  u_cnd false qB hF
  u_c fB qB hF;u_c aW qB hF;u_c aW qB hF;u_reg qB hF;u_op qB hF;u_op qB hF;u_op qB hF;u_skip qB hF;u_skip qB hF;u_op qB hF;u_c bf qB hF
  u_cnd true qB hF
  u_c stepG_ret' qB hF;refine dF (λw₅ h₁=>?_);replace hF:=qB hF h₁;clear h₁;refine⟨rfl,_,stepG_unwind_entry (v:=.tuple #[]) (evs:=#[mk .enable]) rfl H.f_enable (x_enable_n L) (x_enable_b L) (x_enable_x L) (x_enable_f L) axq ig ig,9,?_⟩
  u_leave0 H.f_add qB hF
  exact ays
def ajM(L:WgLink)(Wg:Nat)(c:aJ)(cs:aP)(g:aG)(w:ah):Prop:=
 ∃T:aB,g=G ((base L.wait).at ⟨T,[]⟩ [.code (L7 L),.inLoop (L7 L),.inBlock 0]) (c::cs)/\T.size=84/\T[0]?=some (.pointer (some ⟨Wg,0,none⟩))/\WgLive L.tWg Wg w
omit [Payload]in
theorem adV{P:aN}(H:WgLib P L)(g:aG)(w:ah)(h:ajM L Wg (b₀.at a₀ (.inRegion ops₀ (i₀::rest₀)::k₀)) cs g w):
  ∃m,Goes P true (RL L.tWg Wg) DC0 (WW1 P L.tWg Wg (G (b₀.at (a₀.put ((ops₀[i₀]?).bind (·.dst)) (.tuple #[])) (.inRegion ops₀ rest₀::k₀)) cs) (ajM L Wg (b₀.at a₀ (.inRegion ops₀ (i₀::rest₀)::k₀)) cs)) m g w:=by
 lib_facts
 obtain⟨T,rfl,auh,t0,hF⟩:=h;obtain⟨v0,v1,v2,v3,v4,v5,v6,v7,v8,v9,v10,v11,v12,Wx,XR,Qa,Oh,Ud,Qk,Ql,v20,v21,v22,Ux,v24,Qm,v26,v27,v28,v29,v30,v31,v32,v33,v34,v35,v36,v37,v38,v39,v40,v41,v42,v43,v44,v45,v46,v47,v48,v49,v50,v51,v52,v53,v54,v55,v56,v57,v58,v59,v60,v61,v62,v63,v64,v65,v66,v67,v68,v69,v70,v71,v72,v73,v74,v75,v76,v77,v78,v79,v80,v81,v82,v83,rfl⟩:=array84 T auh;simp only[pz,jB,iE]at t0;subst t0;refine⟨30,?_⟩;simp only[L7,body_wait,waitFn,aQ];u_c lG qB hF;u_c aW qB hF;u_reg qB hF;u_op qB hF;u_op qB hF;u_op qB hF
 u_call H.f_uLoad (nm_uLoad L) uLoadFn qB hF
 u_c aW qB hF;u_reg qB hF;u_op qB hF;u_c bf qB hF;u_c aW qB hF;u_reg qB hF;u_op qB hF;u_op qB hF;u_op qB hF;refine dF (λw₁ h₁=>?_);replace hF:=qB hF h₁;clear h₁;refine⟨rfl,λv hv hw=>?_⟩;rcases fE v with rfl|hvp
 .replace hw:WgAt L.tWg Wg w₁ 0 0:=by simpa using hw
  refine⟨_,stepG_load_atomic (v:=0) rfl rfl (by k_ne) rfl H.f_loadU64 (x_loadU64_n L) (x_loadU64_b L) (x_loadU64_x L) .u64 (x_loadU64_f L) rfl hw.cellSt,λ_=>⟨50,?_⟩,λh=>absurd rfl h⟩;clear hw;walk_nrm;u_op qB hF;u_c bf qB hF;u_c stepG_ret' qB hF
  u_leave1 H.f_uLoad qB hF
  u_op qB hF;u_c bf qB hF;u_c aW qB hF;u_reg qB hF;u_op qB hF;u_op qB hF;u_op qB hF;u_op qB hF;u_c bf qB hF;u_c aW qB hF;u_reg qB hF;u_op qB hF;u_op qB hF;u_op qB hF;u_op qB hF;u_c bf qB hF;u_c aW qB hF;u_c aW qB hF;u_reg qB hF;u_op qB hF;u_op qB hF;u_c bf qB hF
  u_cond true qB hF
  u_c aW qB hF
  u_cond true qB hF
  u_c aW qB hF;u_reg qB hF;refine dF (λw₂ h₁=>?_);replace hF:=qB hF h₁;clear h₁;refine⟨rfl,_,stepG_mark0 .enable ax rfl rfl (by k_ne) rfl H.f_enable (x_enable_n L) (x_enable_b L) (x_enable_x L) (x_enable_f L),12,?_⟩;walk_nrm;u_c bf qB hF;u_reg qB hF;u_op qB hF
  u_conv H.underlying_tWgP H.room_tWg (WgLive.cell0 hF).choose_spec qB hF
  refine dF (λw₃ h₁=>?_);replace hF:=qB hF h₁;clear h₁;refine⟨rfl,_,stepG_markAt .acquire ax rfl rfl (by k_ne) rfl H.f_acquire (x_acquire_n L) (x_acquire_b L) (x_acquire_x L) (x_acquire_f L) (by simp[Act.eval,stA]),⟨40,?_⟩⟩;walk_nrm;u_c bf qB hF;u_c aW qB hF;u_c aW qB hF;u_reg qB hF;u_op qB hF;u_op qB hF;u_op qB hF;u_op qB hF;u_op qB hF;u_op qB hF;u_op qB hF;u_op qB hF;u_skip qB hF;u_skip qB hF;u_op qB hF;u_c bf qB hF
  u_cond false qB hF
  u_c fB qB hF;u_c stepG_ret' qB hF
  u_leave0 H.f_wait qB hF
  exact ays
 .obtain⟨S,hS⟩:∃S:Int,(v:Int)*KK=S:=⟨_,rfl⟩;have a1:S/4294967296=(v:Int):=axU;have b1:bits .and .u64 S 2147483648=0:=by rw[<-hS];have:=st_flag v 0 ag ag;simpa[KK]using this
  have b2:bits .and .u64 S 2147483647=0:=by rw[<-hS];have:=st_waiters v 0 ag ag;simpa[KK]using this
  have c1:IntKind.i32.wrap (v:Int)=(v:Int):=by rw[IntKind.wrap_i32];omega
  have w1:IntKind.u64.wrap (S+1)=S+1:=by rw[IntKind.wrap_u64,<-hS];simp only[KK];omega
  have q3:decide ((v:Int)<0)=false:=fD ag;have q4:decide (0<(v:Int))=true:=ja ag;have q5:((v:Int)==0)=false:=aS;have q6:decide ((v:Int)=0)=false:=fD ag;rw[hS]at hw;refine⟨_,stepG_load_atomic (v:=S) rfl rfl (by k_ne) rfl H.f_loadU64 (x_loadU64_n L) (x_loadU64_b L) (x_loadU64_x L) .u64 (x_loadU64_f L) rfl hw.cellSt,λh0=>absurd h0 ag,λ_=>⟨60,?_⟩⟩;clear hw;walk_nrm;u_op qB hF;u_c bf qB hF;u_c stepG_ret' qB hF
  u_leave1 H.f_uLoad qB hF
  u_op qB hF;u_c bf qB hF;u_c aW qB hF;u_reg qB hF;u_op qB hF;u_op qB hF;u_op qB hF;u_op qB hF;u_c bf qB hF;u_c aW qB hF;u_reg qB hF;u_op qB hF;u_op qB hF;u_op qB hF;u_op qB hF;u_c bf qB hF;u_c aW qB hF;u_c aW qB hF;u_reg qB hF;u_op qB hF;u_op qB hF;u_c bf qB hF
  u_cnd false qB hF
  u_c fB qB hF;u_c aW qB hF;u_reg qB hF;u_op qB hF;u_op qB hF;u_op qB hF;u_op qB hF;u_op qB hF;u_op qB hF
  u_call H.f_uCas (nm_uCas L) uCasFn qB hF
  u_c aW qB hF;u_reg qB hF;u_op qB hF;u_c bf qB hF;u_c aW qB hF;u_reg qB hF;u_op qB hF;u_op qB hF;u_op qB hF;u_op qB hF;u_op qB hF;refine dF (λw₂ h₁=>?_);replace hF:=qB hF h₁;clear h₁;refine⟨rfl,λv' hv' hw=>⟨λe=>?_,λe=>?_⟩⟩
  .subst e;rw[hS]at hw⊢;refine⟨_,(stepG_cas_hit (v:=S) (n:=S+1) rfl rfl (by k_ne) rfl H.f_casU64 (x_casU64_n L) (x_casU64_b L) (x_casU64_x L) .u64 (x_casU64_f L) rfl rfl rfl hw.cellSt (hw.thaw 0)).trans aI,70,?_⟩;replace hF:WgLive L.tWg Wg (w₂.setCell (stA Wg) (.int .u64 (S+1))):=⟨_,_,hw.setSt _⟩;clear hw;walk_nrm;u_op qB hF;u_c bf qB hF;u_c stepG_ret' qB hF
   u_leave1 H.f_uCas qB hF
   u_c bf qB hF
   u_cond true qB hF
   u_c aW qB hF;u_c aW qB hF;u_reg qB hF;u_op qB hF;u_op qB hF;u_op qB hF;u_op qB hF;u_c bf qB hF
   u_cond true qB hF
   u_reg qB hF;u_op qB hF;u_op qB hF;u_op qB hF
   u_conv H.underlying_tPU32 H.room_tU32 (WgLive.cell1 hF).choose_spec qB hF
   refine dF (λw₃ h₁=>?_);replace hF:=qB hF h₁;clear h₁;refine⟨rfl,_,stepG_markAt .write ax rfl rfl (by k_ne) rfl H.f_raceWrite (x_raceWrite_n L) (x_raceWrite_b L) (x_raceWrite_x L) (x_raceWrite_f L) (ad:=⟨Wg,1,none⟩) gI,60,az _,?_⟩;walk_nrm;u_c bf qB hF;u_c aW qB hF;u_reg qB hF;u_op qB hF;u_c bf qB hF;u_c aW qB hF;u_c aW qB hF;u_reg qB hF;u_op qB hF;u_op qB hF;u_op qB hF;u_op qB hF;u_skip qB hF;u_op qB hF;u_c bf qB hF
   u_cond false qB hF
   u_c fB qB hF;u_c aW qB hF;u_reg qB hF;u_op qB hF;u_op qB hF;u_op qB hF;u_op qB hF;refine dF (λw₄ h₁=>?_);replace hF:=qB hF h₁;clear h₁;refine⟨rfl,rfl,λ⟨st,hw⟩=>stepG_semacquire_wait rfl rfl rfl H.f_semacquire (x_semacquire_n L) (x_semacquire_b L) (x_semacquire_x L) (x_semacquire_f L) (by simp[Act.eval,smA]) hw.cellSm,λhf=>?_⟩;refine⟨_,(stepG_semacquire (n:=1) rfl rfl (by k_ne) rfl H.f_semacquire (x_semacquire_n L) (x_semacquire_b L) (x_semacquire_x L) (x_semacquire_f L) (by simp[Act.eval,smA]) hf.cellSm (by k_ne) (hf.thaw 1)).trans aI,30,?_⟩;replace hF:WgLive L.tWg Wg (w₄.setCell (smA Wg) (.int .u32 0)):=⟨_,_,hf.setSm 0⟩;clear hf;walk_nrm;u_c bf qB hF;u_c aW qB hF;u_reg qB hF;u_op qB hF;u_op qB hF;u_op qB hF
   u_call H.f_uLoad (nm_uLoad L) uLoadFn qB hF
   u_c aW qB hF;u_reg qB hF;u_op qB hF;u_c bf qB hF;u_c aW qB hF;u_reg qB hF;u_op qB hF;u_op qB hF;u_op qB hF;refine dF (λw₅ h₁=>?_);replace hF:=qB hF h₁;clear h₁;refine⟨rfl,λhw=>⟨_,stepG_load_atomic (v:=0) rfl rfl (by k_ne) rfl H.f_loadU64 (x_loadU64_n L) (x_loadU64_b L) (x_loadU64_x L) .u64 (x_loadU64_f L) rfl hw.cellSt,30,?_⟩⟩;clear hw;walk_nrm;u_op qB hF;u_c bf qB hF;u_c stepG_ret' qB hF
   u_leave1 H.f_uLoad qB hF
   u_op qB hF;u_op qB hF;u_c bf qB hF;u_c aW qB hF
   u_cond true qB hF
   u_c aW qB hF;u_reg qB hF;refine dF (λw₆ h₁=>?_);replace hF:=qB hF h₁;clear h₁;refine⟨rfl,_,stepG_mark0 .enable ax rfl rfl (by k_ne) rfl H.f_enable (x_enable_n L) (x_enable_b L) (x_enable_x L) (x_enable_f L),12,?_⟩;walk_nrm;u_c bf qB hF;u_reg qB hF;u_op qB hF
   u_conv H.underlying_tWgP H.room_tWg (WgLive.cell0 hF).choose_spec qB hF
   refine dF (λw₇ h₁=>?_);replace hF:=qB hF h₁;clear h₁;refine⟨rfl,_,stepG_markAt .acquire ax rfl rfl (by k_ne) rfl H.f_acquire (x_acquire_n L) (x_acquire_b L) (x_acquire_x L) (x_acquire_f L) (by simp[Act.eval,stA]),⟨40,?_⟩⟩;walk_nrm;u_c bf qB hF;u_c aW qB hF;u_c aW qB hF;u_reg qB hF;u_op qB hF;u_c bf qB hF
   u_cond false qB hF
   u_c fB qB hF;u_c stepG_ret' qB hF
   u_leave0 H.f_wait qB hF
   exact ays
  .refine⟨_,stepG_cas_miss (v:=(v':Int)*KK) (old:=S) (n:=S+1) rfl rfl (by k_ne) rfl H.f_casU64 (x_casU64_n L) (x_casU64_b L) (x_casU64_x L) .u64 (x_casU64_f L) rfl rfl rfl hw.cellSt (hw.thaw 0) axU,20,?_⟩;clear hw;walk_nrm;u_op qB hF;u_c bf qB hF;u_c stepG_ret' qB hF
   u_leave1 H.f_uCas qB hF
   u_c bf qB hF
   u_cond false qB hF
   u_c fB qB hF;u_c stepG_inBlock qB hF;u_c stepG_inLoop qB hF;exact dF (λw₃ h₁=>⟨_,rfl,ax,ax,qB hF h₁⟩)
omit [Payload]in
theorem aiD{P:aN}(H:WgLib P L):an1 P L.tWg Wg (G (b₀.at (a₀.put ((ops₀[i₀]?).bind (·.dst)) (.tuple #[])) (.inRegion ops₀ rest₀::k₀)) cs)
  (G ((base L.wait).at ⟨#[.pointer (some ⟨Wg,0,none⟩),undef,undef,undef,undef,undef,undef,undef,undef,undef,undef,undef,undef,undef,undef,undef,undef,undef,undef,undef,undef,undef,undef,undef,undef,undef,undef,undef,undef,undef,undef,undef,undef,undef,undef,undef,undef,undef,undef,undef,undef,undef,undef,undef,undef,undef,undef,undef,undef,undef,undef,undef,undef,undef,undef,undef,undef,undef,undef,undef,undef,undef,undef,undef,undef,undef,undef,undef,undef,undef,undef,undef,undef,undef,undef,undef,undef,undef,undef,undef,undef,undef,undef,undef],[]⟩ [.code (body_wait L)]) (b₀.at a₀ (.inRegion ops₀ (i₀::rest₀)::k₀)::cs)):=by
 refine⟨ajM L Wg (b₀.at a₀ (.inRegion ops₀ (i₀::rest₀)::k₀)) cs,λg w h=>by obtain⟨T,rfl,_⟩:=h;rfl,λg w h=>adV H g w h,λw hF=>⟨3,?_⟩⟩
 lib_facts
 simp only[body_wait,waitFn,aQ];u_c aW qB hF
 u_cond true qB hF
 u_reg qB hF;refine dF (λw₁ h₁=>?_);replace hF:=qB hF h₁;clear h₁;refine⟨rfl,_,stepG_mark0 .disable ax rfl rfl (by k_ne) rfl H.f_disable (x_disable_n L) (x_disable_b L) (x_disable_x L) (x_disable_f L),3,?_⟩;walk_nrm;u_c bf qB hF;u_c lG qB hF;u_c stepG_loop qB hF;exact dF (λw₂ h₁=>⟨_,rfl,ax,ax,qB hF h₁⟩)
end
#print axioms aoJ
#print axioms aiD

/-
  In company: the starter of coding.Columns: for every place a worker is started.
-/
import Derived.Test.YtkpcmfgeanlcnabGreatDoorCoK
import Derived.KernelRfl
namespace Go.Proofs.YtkpcmfgeanlcnabGreatDoor
open Go.Conc Go.ConcN Go.RowKit Go.Gh Go.Conc.Lib Go.ConcR.Gen Go.ConcN.Gen
open Go.ConcR (Payload)
def LoC [OldG] (Wg C B b:Nat):Prop:=b < B∧b≠Wg∧b≠C∧¬ OldG.old b
structure EnvC where
  ba:Nat
  bk:Nat
  bd:Nat
  bD:Nat
  oD:Nat
  cD:Nat
  cs:List Col
  h0:Nat→Option Obj
def EnvC.cap (E:EnvC) (bj:Nat):CapC:={ ba:=E.ba,bj:=bj,bk:=E.bk,bd:=E.bd,bD:=E.bD,oD:=E.oD,cD:=E.cD }
def EnvC.res (E:EnvC) (k L t:Nat):List Nat:=comb (zsOf ((List.range k).map (rowV k t)) E.cs) (List.replicate L 0)
structure EnvCOk (E:EnvC) (k n L:Nat):Prop where
  k0:0 < k
  k1:k≤128
  n1:n≤128
  hL:L≤140737488355328
  len:E.cs.length=k
  cl:∀ c∈E.cs,LenIs c.ys L∧∀ y∈c.ys,y < 256
structure LowC [OldG] (Wg C B k n L:Nat) (E:EnvC) (w:World):Prop where
  la:LoC Wg C B E.ba
  lk:LoC Wg C B E.bk
  ld:LoC Wg C B E.bd
  lD:LoC Wg C B E.bD
  va:w.cell? ⟨E.ba,0,none⟩=some (.slice (some ⟨C,0,none⟩) n n)
  vk:w.cell? ⟨E.bk,0,none⟩=some (.int .i64 ((k:Nat):Int))
  vd:w.cell? ⟨E.bd,0,none⟩=some (.slice (some ⟨E.bD,E.oD,none⟩) k E.cD)
  hc:∀ j c,E.cs[j]? = some c→w.cell? ⟨E.bD,E.oD+j,none⟩=some (.slice c.bs L c.co)
  hcol:∀ c∈E.cs,LoC Wg C B c.bo∧(0 < L→c.bs=some ⟨c.bo,c.oo,none⟩)∧∀ i y,c.ys[i]? = some y→w.cell? ⟨c.bo,c.oo+i,none⟩=some (.int .u8 ((y:Nat):Int))
  std:∀ b,b < B→b≠Wg→b≠C→w.heap[b]? = E.h0 b
theorem LowC.keep [OldG] {Wg C B k n L:Nat} {E:EnvC} {w w₁:World} (h:LowC Wg C B k n L E w) (st0:∀ b,b < B→b≠Wg→b≠C→w₁.heap[b]? = w.heap[b]?):LowC Wg C B k n L E w₁:=by
  have st:∀ {b:Nat},LoC Wg C B b→∀ o,w₁.cell? ⟨b,o,none⟩=w.cell? ⟨b,o,none⟩:=fun hb o=>by simp only [World.cell?,st0 _ hb.1 hb.2.1 hb.2.2.1]
  exact ⟨h.la,h.lk,h.ld,h.lD,(st h.la _).trans h.va,(st h.lk _).trans h.vk,(st h.ld _).trans h.vd,fun j c e=>(st h.lD _).trans (h.hc j c e),fun c hc=>let ⟨h1,h2,h3⟩:=h.hcol c hc;⟨h1,h2,fun i y e=>(st h1 _).trans (h3 i y e)⟩,fun b h1 h2 h3=>(st0 b h1 h2 h3).trans (h.std b h1 h2 h3)⟩
section
variable [Payload] [OldG] {Wg C k n B L:Nat} {E:EnvC}
structure SFc (Wg C k n B L:Nat) (E:EnvC) (s0:Nat) (w:World):Prop where
  bs:Bs C B w
  pay:PayAt C n w
  low:LowC Wg C B k n L E w
  sb:C < s0∧B≤s0∧s0≤w.heap.size
theorem SFc.rely {s0:Nat} {w w₁:World} (h:SFc Wg C k n B L E s0 w) (r:Ro Wg C n B (fun i=>¬ i < n) w w₁):SFc Wg C k n B L E s0 w₁:=
  ⟨h.bs.rely r,r.pay h.pay,h.low.keep r.low,⟨h.sb.1,h.sb.2.1,Nat.le_trans h.sb.2.2 r.size⟩⟩
theorem SFc.ex {s0:Nat} {w w₁:World} {S:Nat→Prop} (h:SFc Wg C k n B L E s0 w) (hb:Bs C B w₁) (r:Ex Wg C n B (fun i=>¬ i < n) S w w₁):SFc Wg C k n B L E s0 w₁:=
  ⟨hb,r.pay h.pay,h.low.keep r.low,⟨h.sb.1,h.sb.2.1,Nat.le_trans h.sb.2.2 r.size⟩⟩
theorem SFc.base {s0:Nat} {w:World} (h:SFc Wg C k n B L E s0 w):SFc Wg C k n B L E w.heap.size w:=⟨h.bs,h.pay,h.low,⟨h.bs.hC,h.bs.hB,Nat.le_refl _⟩⟩
structure SJc (Wg C k n B L:Nat) (E:EnvC) (s0 bj:Nat) (vj:Value) (w:World):Prop where
  sf:SFc Wg C k n B L E s0 w
  lj:s0≤bj
  mj:Mine w bj
  hj:w.heap[bj]? = some (.cells #[vj] 3)
theorem SJc.rely {s0 bj:Nat} {vj:Value} {w w₁:World} (h:SJc Wg C k n B L E s0 bj vj w) (r:Ro Wg C n B (fun i=>¬ i < n) w w₁):SJc Wg C k n B L E s0 bj vj w₁:=⟨h.sf.rely r,h.lj,(r.mineAt _).2 h.mj,(r.mine _ h.mj).trans h.hj⟩
theorem SFc.alloc1 {s0:Nat} {w:World} (h:SFc Wg C k n B L E s0 w) (v:Value):SJc Wg C k n B L E s0 w.heap.size v (w.alloc (.cells #[v] 3)):=
  ⟨h.ex (S:=fun _=>False) (h.bs.alloc _) (Ex.alloc h.bs.hC h.bs.hB (fun _ hb=>h.bs.lt hb) _),h.sb.2.2,mine_fresh (w:=w) (w':=w.alloc _) rfl h.bs.tg (Nat.le_refl _) (by rw [sz_alloc];omega),by rw [heap_new]⟩
theorem SJc.jC {s0 bj:Nat} {vj:Value} {w:World} (h:SJc Wg C k n B L E s0 bj vj w):bj≠C:=by have:=h.lj;have:=h.sf.sb.1;omega
theorem SJc.cj {s0 bj:Nat} {vj:Value} {w:World} (h:SJc Wg C k n B L E s0 bj vj w):w.cell? ⟨bj,0,none⟩=some vj∧w.frozen? ⟨bj,0,none⟩=false:=⟨by rw [cell_of w h.hj];rfl,thaw_of w h.hj 0⟩
theorem SJc.setj {s0 bj:Nat} {vj:Value} {w:World} (h:SJc Wg C k n B L E s0 bj vj w) (v:Value):SJc Wg C k n B L E s0 bj v (w.setCell ⟨bj,0,none⟩ v):=
  ⟨h.sf.ex (S:=fun x=>s0≤x) (h.sf.bs.set _ _) (Ex.set h.jC h.lj (by have:=h.sf.sb.2.1;have:=h.lj;show ¬ (bj < B∧_);omega)),h.lj,mine_grow (w:=w) (w':=w.setCell _ _) rfl (by rw [sz_set];omega) h.mj,heap_set w h.hj 0 v⟩
theorem SFc.book {s0:Nat} {w:World} (h:SFc Wg C k n B L E s0 w) {l:List Nat} (hl:∀ b∈l,b < w.heap.size):SFc Wg C k n B L E s0 (w.out (book w.heap.size l)):=
  ⟨⟨by rw [tag_book];exact Nat.le_refl _,h.bs.hC,h.bs.hB,fun b hb=>by rw [own_book] at hb;exact hl b hb⟩,h.pay,h.low.keep (fun _ _ _ _=>rfl),h.sb⟩
theorem wic_of {s0 j bj:Nat} {w:World} (h:SJc Wg C k n B L E s0 bj (.int .i64 ((j:Nat):Int)) w):WIc Wg C n B (E.cap bj) k L j E.cs (w.out (book w.heap.size [bj])):=by
  have hf:=h.sf.low
  exact ⟨⟨by rw [tag_book];exact Nat.le_refl _,h.sf.bs.hC,h.sf.bs.hB,fun b hb=>by rw [own_book,List.mem_singleton] at hb;subst hb;exact h.sf.bs.lt h.mj⟩,h.sf.pay,.inr hf.la,hf.va,.inl (.inl (by rw [own_book];exact List.mem_singleton.2 rfl)),h.cj.1,
    .inr hf.lk,hf.vk,.inr hf.ld,hf.vd,.inr hf.lD,hf.hc,fun c hc=>⟨.inr (hf.hcol c hc).1,(hf.hcol c hc).2⟩⟩
end
def TC (E:EnvC) (Wg n j:Nat) (T:Array Value):Prop:=∃ f:Nat→Value,T = #[f 0,f 1,f 2,.pointer (some ⟨E.bk,0,none⟩),f 4,f 5,f 6,.pointer (some ⟨E.bd,0,none⟩),.pointer (some ⟨E.ba,0,none⟩),.pointer (some ⟨Wg,0,none⟩),f 10,f 11,f 12,f 13,f 14,f 15,f 16,.int .i64 ((n:Nat):Int),.int .i64 ((j:Nat):Int),f 19,f 20,f 21,f 22,f 23,f 24,f 25]
theorem tc_mk {E:EnvC} {Wg n j:Nat} {T:Array Value} (h:T = #[T.getD 0 undef,T.getD 1 undef,T.getD 2 undef,.pointer (some ⟨E.bk,0,none⟩),T.getD 4 undef,T.getD 5 undef,T.getD 6 undef,.pointer (some ⟨E.bd,0,none⟩),.pointer (some ⟨E.ba,0,none⟩),.pointer (some ⟨Wg,0,none⟩),T.getD 10 undef,T.getD 11 undef,T.getD 12 undef,T.getD 13 undef,T.getD 14 undef,T.getD 15 undef,T.getD 16 undef,.int .i64 ((n:Nat):Int),.int .i64 ((j:Nat):Int),T.getD 19 undef,T.getD 20 undef,T.getD 21 undef,T.getD 22 undef,T.getD 23 undef,T.getD 24 undef,T.getD 25 undef]):TC E Wg n j T:=⟨fun i=>T.getD i undef,h⟩
def gFst:Code→Code | .seq x _=>x | c=>c
def gSnd:Code→Code | .seq _ y=>y | c=>c
def gIn:Code→Code | .block _ c=>c | .loop c=>c | c=>c
def gOps:Code→Array Oper | .region _ o _=>o | _=>#[]
noncomputable def gBody:Code:=Tryz.f36.body.getD .skip
noncomputable def gTail:Code:=gSnd (gSnd (gSnd (gSnd gBody)))
noncomputable def gLoop:Code:=gIn (gIn (gSnd (gFst gTail)))
noncomputable def gBlk:Code:=gIn (gFst (gSnd (gSnd gLoop)))
noncomputable def qg4:{x:Array Oper // x=gOps (gFst (gFst gTail))}:=⟨_,by (simp only [gBody,gTail,gFst,gSnd,gOps,Tryz.f36,Option.getD_some];rfl)⟩
noncomputable def og4:Array Oper:=qg4.1
noncomputable def qg5:{x:Array Oper // x=gOps (gFst gLoop)}:=⟨_,by (simp only [gBody,gLoop,gTail,gFst,gSnd,gIn,gOps,Tryz.f36,Option.getD_some];rfl)⟩
noncomputable def og5:Array Oper:=qg5.1
noncomputable def qg6:{x:Array Oper // x=gOps (gFst gBlk)}:=⟨_,by (simp only [gBody,gBlk,gLoop,gTail,gFst,gSnd,gIn,gOps,Tryz.f36,Option.getD_some];rfl)⟩
noncomputable def og6:Array Oper:=qg6.1
noncomputable def qg7:{x:Array Oper // x=gOps (gFst (gSnd gBlk))}:=⟨_,by (simp only [gBody,gBlk,gLoop,gTail,gFst,gSnd,gIn,gOps,Tryz.f36,Option.getD_some];rfl)⟩
noncomputable def og7:Array Oper:=qg7.1
noncomputable def qg8:{x:Array Oper // x=gOps (gSnd (gSnd gBlk))}:=⟨_,by (simp only [gBody,gBlk,gLoop,gTail,gFst,gSnd,gIn,gOps,Tryz.f36,Option.getD_some];rfl)⟩
noncomputable def og8:Array Oper:=qg8.1
noncomputable def qg9:{x:Array Oper // x=gOps (gSnd (gSnd (gSnd gLoop)))}:=⟨_,by (simp only [gBody,gLoop,gTail,gFst,gSnd,gIn,gOps,Tryz.f36,Option.getD_some];rfl)⟩
noncomputable def og9:Array Oper:=qg9.1
noncomputable def qg10:{x:Array Oper // x=gOps (gFst (gSnd gTail))}:=⟨_,by (simp only [gBody,gTail,gFst,gSnd,gOps,Tryz.f36,Option.getD_some];rfl)⟩
noncomputable def og10:Array Oper:=qg10.1
noncomputable def qg11:{x:Array Oper // x=gOps (gFst (gSnd (gSnd gTail)))}:=⟨_,by (simp only [gBody,gTail,gFst,gSnd,gOps,Tryz.f36,Option.getD_some];rfl)⟩
noncomputable def og11:Array Oper:=qg11.1
noncomputable def gEnd2:Code:=.seq (.region 11 og11 false) .ret
noncomputable def gEnd:Code:=.seq (.region 10 og10 false) gEnd2
theorem gTail_eq:gTail = .seq (.seq (.region 4 og4 false) (.block 0 (.loop gLoop))) gEnd:=by kernel_rfl
theorem gLoop_eq:gLoop = .seq (.region 5 og5 false) (.seq (.cond (.tmp 19) .skip (.exit 0)) (.seq (.block 1 gBlk) (.region 9 og9 false))):=by kernel_rfl
theorem gBlk_eq:gBlk = .seq (.region 6 og6 false) (.seq (.region 7 og7 false) (.region 8 og8 false)):=by kernel_rfl
theorem ng4:og4.size=3:=by kernel_rfl
theorem ng5:og5.size=1:=by kernel_rfl
theorem ng6:og6.size=3:=by kernel_rfl
theorem ng7:og7.size=1:=by kernel_rfl
theorem ng8:og8.size=2:=by kernel_rfl
theorem ng9:og9.size=2:=by kernel_rfl
theorem ng10:og10.size=1:=by kernel_rfl
section
variable [Payload] [OldG] {Wg C k n B L:Nat} {E:EnvC}
def KC (Wg C k n B L:Nat) (E:EnvC) (cs:List Frame) (ids:List Nat) (g:Goroutine) (w:World):Prop:=
  ∃ T s0 j ops,g=G ((base 36).at ⟨T,[]⟩ (.inRegion ops [] :: [.code gEnd2])) cs∧TC E Wg n j T∧SFc Wg C k n B L E s0 w∧∀ x,x∈ids↔x < n
theorem KC.rely {cs:List Frame} {ids:List Nat} {g:Goroutine} {w w₁:World} (h:KC Wg C k n B L E cs ids g w) (r:Ro Wg C n B (fun i=>¬ i < n) w w₁):KC Wg C k n B L E cs ids g w₁:=by
  obtain ⟨T,s0,j,ops,h1,h2,h3,h4⟩:=h
  exact ⟨T,s0,j,ops,h1,h2,h3.rely r,h4⟩
def StC (Wg C k n B L:Nat) (E:EnvC) (cs:List Frame):Nat→List Nat→Goroutine→World→Prop
  | 0,ids=>AtWt Tryz.prog link.tWg Wg (KC Wg C k n B L E cs) ids
  | r+1,ids=>AtAdd Tryz.prog link.tWg Wg C n B (· < n) (WPr C L (E.res k L)) (Sp Tryz.prog link.tWg Wg C n B (· < n) (WPr C L (E.res k L)) (KC Wg C k n B L E cs) r) ids
theorem spc_iff {cs:List Frame} (r:Nat) (ids:List Nat) (g:Goroutine) (w:World):Sp Tryz.prog link.tWg Wg C n B (· < n) (WPr C L (E.res k L)) (KC Wg C k n B L E cs) r ids g w↔∃ m,Goes Tryz.prog true (Ro Wg C n B (fun i=>¬ i < n)) (Dg Wg C n B (fun i=>¬ i < n)) (StC Wg C k n B L E cs r ids) m g w:=by cases r <;> exact Iff.rfl
set_option maxRecDepth 100000 in
set_option maxHeartbeats 4000000 in
theorem c_last {cs:List Frame}:∃ m,∀ (T:Array Value) (w:World) (ids:List Nat) (s0:Nat),TC E Wg n n T→SFc Wg C k n B L E s0 w→(∀ x,x∈ids↔x < n) →
    Goes Tryz.prog true (Ro Wg C n B (fun i=>¬ i < n)) (Dg Wg C n B (fun i=>¬ i < n)) (StC Wg C k n B L E cs 0 ids) m (G ((base 36).at ⟨T,[]⟩ (.code gLoop :: .inLoop gLoop :: .inBlock 0 :: [.code gEnd])) cs) w:=by
  co_apply Exists.intro
  rintro T w ids s0 ⟨f,rfl⟩ hF hids
  have hnl:¬ ((n:Int) < (n:Int)):=by omega
  generalize hkk:Item.inLoop gLoop :: [Item.inBlock 0,Item.code gEnd]=kk
  rw [gLoop_eq]
  (co_apply Goes.step rfl;intro _ hRq;replace hF:=SFc.rely hF hRq;clear hRq;rw [stepG_seq];simp only [goes_go];refine ⟨Terms.idle termsG _,?_⟩)
  (co_apply Goes.step rfl;intro _ hRq;replace hF:=SFc.rely hF hRq;clear hRq;rw [stepG_region,ng5];simp only [goes_go,List.range,List.range.loop];refine ⟨Terms.idle termsG _,?_⟩;simp only [og5,qg5])
  (co_apply Goes.step rfl;intro _ hRq;replace hF:=SFc.rely hF hRq;clear hRq
   refine goes_oper_k rfl rfl (by decide) (fun Kq hKq => ?_)
   (skip)
   go_simp
   try (unfold stored;go_simp)
   refine hKq _ _ ⟨?_,?_⟩
   · (co_quiet termsG)
   clear hKq Kq
   try walk_nrm)
  (co_apply Goes.step rfl;intro _ hRq;replace hF:=SFc.rely hF hRq;clear hRq;rw [stepG_region_end];simp only [goes_go];refine ⟨Terms.idle termsG _,?_⟩)
  (co_apply Goes.step rfl;intro _ hRq;replace hF:=SFc.rely hF hRq;clear hRq;rw [stepG_seq];simp only [goes_go];refine ⟨Terms.idle termsG _,?_⟩)
  (co_apply Goes.step rfl;intro _ hRq;replace hF:=SFc.rely hF hRq;clear hRq)
  rw [stepG_cond (t:=false) rfl]
  simp only [goes_go,Bool.false_eq_true,if_false]
  refine ⟨Terms.idle termsG _,?_⟩
  (co_apply Goes.step rfl;intro _ hRq;replace hF:=SFc.rely hF hRq;clear hRq)
  subst hkk
  refine goes_exit rfl ?_
  refine ⟨Terms.idle termsG _,?_⟩
  unfold gEnd
  (co_apply Goes.step rfl;intro _ hRq;replace hF:=SFc.rely hF hRq;clear hRq;rw [stepG_seq];simp only [goes_go];refine ⟨Terms.idle termsG _,?_⟩)
  (co_apply Goes.step rfl;intro _ hRq;replace hF:=SFc.rely hF hRq;clear hRq;rw [stepG_region,ng10];simp only [goes_go,List.range,List.range.loop];refine ⟨Terms.idle termsG _,?_⟩;simp only [og10,qg10])
  (co_apply Goes.step rfl;intro _ hRq;replace hF:=SFc.rely hF hRq;clear hRq)
  refine goes_call rfl rfl (by decide) rfl wgLib.f_wait (nm_wait link) rfl ⟨Terms.idle termsG _,?_⟩
  walk_nrmf waitFn
  refine Goes.stop (n:=0) fun w₁ hR => ?_
  replace hF:=hF.rely hR
  clear hR
  refine ⟨rfl,_,waitW wgLib,_,s0,n,_,rfl,?_,hF,hids⟩
  walk_nrm
  exact tc_mk rfl
set_option maxRecDepth 100000 in
set_option maxHeartbeats 4000000 in
theorem c_round (hE:EnvCOk E k n L) {cs:List Frame} {j:Nat} (hj:j < n) (r:Nat) {m1:Nat}
    (ih:∀ (T:Array Value) (w:World) (ids:List Nat) (s0:Nat),TC E Wg n (j+1) T→SFc Wg C k n B L E s0 w→(∀ x,x∈ids↔x < j+1)→Goes Tryz.prog true (Ro Wg C n B (fun i=>¬ i < n)) (Dg Wg C n B (fun i=>¬ i < n)) (StC Wg C k n B L E cs r ids) m1 (G ((base 36).at ⟨T,[]⟩ (.code gLoop :: .inLoop gLoop :: .inBlock 0 :: [.code gEnd])) cs) w) :
    ∃ m,∀ (T:Array Value) (w:World) (ids:List Nat) (s0:Nat),TC E Wg n j T→SFc Wg C k n B L E s0 w→(∀ x,x∈ids↔x < j) →
      Goes Tryz.prog true (Ro Wg C n B (fun i=>¬ i < n)) (Dg Wg C n B (fun i=>¬ i < n)) (StC Wg C k n B L E cs (r+1) ids) m (G ((base 36).at ⟨T,[]⟩ (.code gLoop :: .inLoop gLoop :: .inBlock 0 :: [.code gEnd])) cs) w:=by
  obtain ⟨mw,hmw⟩:=worksC (Wg:=Wg) (C:=C) (n:=n) (B:=B) k L hE.k0 hE.k1 hE.n1 hE.hL j hj
  co_apply Exists.intro
  rintro T w ids s0 ⟨f,rfl⟩ hF hids
  replace hF:=hF.base
  generalize hs1:w.heap.size=s1 at hF
  clear hs1 s0
  have hjI:(j:Int) < (n:Int):=by omega
  have hn1:=hE.n1
  generalize hkk:Item.inLoop gLoop :: [Item.inBlock 0,Item.code gEnd]=kk
  rw [gLoop_eq]
  (co_apply Goes.step rfl;intro _ hRq;replace hF:=SFc.rely hF hRq;clear hRq;rw [stepG_seq];simp only [goes_go];refine ⟨Terms.idle termsG _,?_⟩)
  (co_apply Goes.step rfl;intro _ hRq;replace hF:=SFc.rely hF hRq;clear hRq;rw [stepG_region,ng5];simp only [goes_go,List.range,List.range.loop];refine ⟨Terms.idle termsG _,?_⟩;simp only [og5,qg5])
  (co_apply Goes.step rfl;intro _ hRq;replace hF:=SFc.rely hF hRq;clear hRq
   refine goes_oper_k rfl rfl (by decide) (fun Kq hKq => ?_)
   (skip)
   go_simp
   try (unfold stored;go_simp)
   refine hKq _ _ ⟨?_,?_⟩
   · (co_quiet termsG)
   clear hKq Kq
   try walk_nrm)
  (co_apply Goes.step rfl;intro _ hRq;replace hF:=SFc.rely hF hRq;clear hRq;rw [stepG_region_end];simp only [goes_go];refine ⟨Terms.idle termsG _,?_⟩)
  (co_apply Goes.step rfl;intro _ hRq;replace hF:=SFc.rely hF hRq;clear hRq;rw [stepG_seq];simp only [goes_go];refine ⟨Terms.idle termsG _,?_⟩)
  (co_apply Goes.step rfl;intro _ hRq;replace hF:=SFc.rely hF hRq;clear hRq)
  rw [stepG_cond (t:=true) rfl]
  simp only [goes_go,if_true]
  refine ⟨Terms.idle termsG _,?_⟩
  (co_apply Goes.step rfl;intro _ hRq;replace hF:=SFc.rely hF hRq;clear hRq;rw [stepG_skip];simp only [goes_go];refine ⟨Terms.idle termsG _,?_⟩)
  (co_apply Goes.step rfl;intro _ hRq;replace hF:=SFc.rely hF hRq;clear hRq;rw [stepG_seq];simp only [goes_go];refine ⟨Terms.idle termsG _,?_⟩)
  (co_apply Goes.step rfl;intro _ hRq;replace hF:=SFc.rely hF hRq;clear hRq;rw [stepG_block];simp only [goes_go];refine ⟨Terms.idle termsG _,?_⟩)
  rw [gBlk_eq]
  (co_apply Goes.step rfl;intro _ hRq;replace hF:=SFc.rely hF hRq;clear hRq;rw [stepG_seq];simp only [goes_go];refine ⟨Terms.idle termsG _,?_⟩)
  (co_apply Goes.step rfl;intro _ hRq;replace hF:=SFc.rely hF hRq;clear hRq;rw [stepG_region,ng6];simp only [goes_go,List.range,List.range.loop];refine ⟨Terms.idle termsG _,?_⟩;simp only [og6,qg6])
  (co_apply Goes.step rfl;intro _ hRq;replace hF:=SFc.rely hF hRq;clear hRq
   refine goes_oper_k rfl rfl (by decide) (fun Kq hKq => ?_)
   (skip)
   go_simp
   try (unfold stored;go_simp)
   refine hKq _ _ ⟨?_,?_⟩
   · (co_quiet termsG)
   clear hKq Kq
   try walk_nrm)
  (co_apply Goes.step rfl;intro _ hRq;replace hF:=SFc.rely hF hRq;clear hRq
   refine goes_oper_k rfl rfl (by decide) (fun Kq hKq => ?_)
   (skip)
   go_simp
   try (unfold stored;go_simp)
   refine hKq _ _ ⟨?_,?_⟩
   · (rw [listed_nil (by simp [go_sem, *])];exact dg_alloc hF.bs.hC _ rfl)
   clear hKq Kq
   try walk_nrm)
  replace hF:=hF.alloc1 (.int .i64 0)
  generalize hN:Array.size (World.heap _)=bj at hF ⊢
  clear hN
  (co_apply Goes.step rfl;intro _ hRq;replace hF:=SJc.rely hF hRq;clear hRq
   refine goes_oper_k rfl rfl (by decide) (fun Kq hKq => ?_)
   (have h0:=hF.cj.1;have h1:=hF.cj.2)
   go_simp
   try (unfold stored;go_simp)
   refine hKq _ _ ⟨?_,?_⟩
   · (refine dg_set hF.mj hF.jC (hF.sf.bs.lt hF.mj) ?_;co_evs (exact ⟨_,_,rfl,rfl⟩))
   clear hKq Kq
   try walk_nrm)
  clear h0 h1
  replace hF:=hF.setj (.int .i64 ((j:Nat):Int))
  (co_apply Goes.step rfl;intro _ hRq;replace hF:=SJc.rely hF hRq;clear hRq;rw [stepG_region_end];simp only [goes_go];refine ⟨Terms.idle termsG _,?_⟩)
  (co_apply Goes.step rfl;intro _ hRq;replace hF:=SJc.rely hF hRq;clear hRq;rw [stepG_seq];simp only [goes_go];refine ⟨Terms.idle termsG _,?_⟩)
  (co_apply Goes.step rfl;intro _ hRq;replace hF:=SJc.rely hF hRq;clear hRq;rw [stepG_region,ng7];simp only [goes_go,List.range,List.range.loop];refine ⟨Terms.idle termsG _,?_⟩;simp only [og7,qg7])
  (co_apply Goes.step rfl;intro _ hRq;replace hF:=SJc.rely hF hRq;clear hRq)
  refine goes_call rfl rfl (by decide) rfl wgLib.f_add (nm_add link) rfl ⟨Terms.idle termsG _,?_⟩
  walk_nrmf addFn
  refine Goes.stop (n:=0) fun w₁ hR => ?_
  replace hF:=hF.rely hR
  clear hR
  have hA:=fun (b₀:Frame) (a₀:Act) (ops₀:Array Oper) (i₀:Nat) (rest₀:List Nat) (k₀:List Item)=>addW (L:=link) (P:=Tryz.prog) (Wg:=Wg) (b₀:=b₀) (a₀:=a₀) (ops₀:=ops₀) (i₀:=i₀) (rest₀:=rest₀) (k₀:=k₀) (cs:=cs) wgLib
  simp only [body_add,addFn,Option.getD_some] at hA
  refine ⟨rfl,_,0+1+1+1,hA _ _ _ _ _ _,?_⟩
  clear hA
  walk_nrm
  (co_apply Goes.step rfl;intro _ hRq;replace hF:=SJc.rely hF hRq;clear hRq;rw [stepG_region_end];simp only [goes_go];refine ⟨Terms.idle termsG _,?_⟩)
  (co_apply Goes.step rfl;intro _ hRq;replace hF:=SJc.rely hF hRq;clear hRq;rw [stepG_region,ng8];simp only [goes_go,List.range,List.range.loop];refine ⟨Terms.idle termsG _,?_⟩;simp only [og8,qg8])
  (co_apply Goes.step rfl;intro _ hRq;replace hF:=SJc.rely hF hRq;clear hRq
   refine goes_oper_k rfl rfl (by decide) (fun Kq hKq => ?_)
   (skip)
   go_simp
   try (unfold stored;go_simp)
   refine hKq _ _ ⟨?_,?_⟩
   · (co_quiet termsG)
   clear hKq Kq
   try walk_nrm)
  refine Goes.stop (n:=0) fun w₂ r₂ => ?_
  replace hF:=hF.rely r₂
  clear r₂
  refine ⟨rfl,?_⟩
  rw [stepG_spawn (d:=wcallC Wg (E.cap bj)) (w':=w₂) (f:=.func 63) (c:=caughtC Wg (E.cap bj)) rfl rfl (by decide) (by simp [go_sem,wcallC,caughtC,EnvC.cap,Deferred.ofValue]) rfl]
  generalize hL:listed _ _ _ _ _=Lx
  have hLx:Lx = #[]:=by
    rw [← hL]
    simp [listed,go_sem,seen,Deferred.ofValue]
    rfl
  subst hLx
  clear hL
  refine ⟨_,_,j,[bj],rfl,rfl,fun hx=>by have:=(hids j).1 hx;omega,hj,fun b hb=>by rw [List.mem_singleton] at hb;subst hb;exact hF.mj,
    ⟨mw,hmw _ _ _ _ hE.len hE.cl rfl (wic_of hF)⟩,fun l' hl'=>(spc_iff r _ _ _).2 ⟨m1+1+1+1+1+1+1+1,?_⟩⟩
  walk_nrm
  have hS:SFc Wg C k n B L E s1 (w₂.out (book w₂.heap.size l')):=hF.sf.book (fun b hb=>hF.sf.bs.lt ((hl' b).1 hb).1)
  clear hF
  have hw1:IntKind.i64.wrap ((j:Int)+1)=((j+1:Nat):Int):=by rw [IntKind.wrap_i64];omega
  (co_apply Goes.step rfl;intro _ hRq;replace hS:=SFc.rely hS hRq;clear hRq;rw [stepG_region_end];simp only [goes_go];refine ⟨Terms.idle termsG _,?_⟩)
  (co_apply Goes.step rfl;intro _ hRq;replace hS:=SFc.rely hS hRq;clear hRq;rw [stepG_inBlock];simp only [goes_go];refine ⟨Terms.idle termsG _,?_⟩)
  (co_apply Goes.step rfl;intro _ hRq;replace hS:=SFc.rely hS hRq;clear hRq;rw [stepG_region,ng9];simp only [goes_go,List.range,List.range.loop];refine ⟨Terms.idle termsG _,?_⟩;simp only [og9,qg9])
  (co_apply Goes.step rfl;intro _ hRq;replace hS:=SFc.rely hS hRq;clear hRq
   refine goes_oper_k rfl rfl (by decide) (fun Kq hKq => ?_)
   (skip)
   go_simp
   try (unfold stored;go_simp)
   refine hKq _ _ ⟨?_,?_⟩
   · (co_quiet termsG)
   clear hKq Kq
   try walk_nrm)
  (co_apply Goes.step rfl;intro _ hRq;replace hS:=SFc.rely hS hRq;clear hRq
   refine goes_oper_k rfl rfl (by decide) (fun Kq hKq => ?_)
   (skip)
   go_simp
   try (unfold stored;go_simp)
   refine hKq _ _ ⟨?_,?_⟩
   · (co_quiet termsG)
   clear hKq Kq
   try walk_nrm)
  (co_apply Goes.step rfl;intro _ hRq;replace hS:=SFc.rely hS hRq;clear hRq;rw [stepG_region_end];simp only [goes_go];refine ⟨Terms.idle termsG _,?_⟩)
  subst hkk
  (co_apply Goes.step rfl;intro _ hRq;replace hS:=SFc.rely hS hRq;clear hRq;rw [stepG_inLoop];simp only [goes_go];refine ⟨Terms.idle termsG _,?_⟩)
  refine ih _ _ (j :: ids) s1 (tc_mk rfl) hS (fun x => ?_)
  rw [List.mem_cons,hids]
  omega
theorem spc (hE:EnvCOk E k n L) {cs:List Frame}:∀ (d j:Nat),j+d=n→∃ m,∀ (T:Array Value) (w:World) (ids:List Nat) (s0:Nat),TC E Wg n j T→SFc Wg C k n B L E s0 w→(∀ x,x∈ids↔x < j) →
    Goes Tryz.prog true (Ro Wg C n B (fun i=>¬ i < n)) (Dg Wg C n B (fun i=>¬ i < n)) (StC Wg C k n B L E cs d ids) m (G ((base 36).at ⟨T,[]⟩ (.code gLoop :: .inLoop gLoop :: .inBlock 0 :: [.code gEnd])) cs) w
  | 0,j,hd=>by
    obtain rfl:j=n:=by omega
    exact c_last (Wg:=Wg) (C:=C) (n:=j) (B:=B) (L:=L) (E:=E) (cs:=cs)
  | d+1,j,hd=>by
    obtain ⟨m1,ih⟩:=spc hE d (j+1) (by omega)
    exact c_round hE (by omega) d ih
def TB (E:EnvC) (Wg:Nat) (T:Array Value):Prop:=∃ f:Nat→Value,T = #[f 0,f 1,f 2,.pointer (some ⟨E.bk,0,none⟩),f 4,f 5,f 6,.pointer (some ⟨E.bd,0,none⟩),.pointer (some ⟨E.ba,0,none⟩),.pointer (some ⟨Wg,0,none⟩),f 10,f 11,f 12,f 13,f 14,f 15,f 16,f 17,f 18,f 19,f 20,f 21,f 22,f 23,f 24,f 25]
set_option maxRecDepth 100000 in
set_option maxHeartbeats 4000000 in
theorem spc_start (hE:EnvCOk E k n L) {cs:List Frame} {T:Array Value} {w:World} {s0:Nat} (hT:TB E Wg T) (hF:SFc Wg C k n B L E s0 w) :
    Sp Tryz.prog link.tWg Wg C n B (· < n) (WPr C L (E.res k L)) (KC Wg C k n B L E cs) n [] (G ((base 36).at ⟨T,[]⟩ [.code gTail]) cs) w:=by
  obtain ⟨m,hm⟩:=spc (Wg:=Wg) (C:=C) (k:=k) (n:=n) (B:=B) (L:=L) (E:=E) hE (cs:=cs) n 0 (by omega)
  rw [spc_iff]
  co_apply Exists.intro
  obtain ⟨f,rfl⟩:=hT
  rw [gTail_eq]
  (co_apply Goes.step rfl;intro _ hRq;replace hF:=SFc.rely hF hRq;clear hRq;rw [stepG_seq];simp only [goes_go];refine ⟨Terms.idle termsG _,?_⟩)
  (co_apply Goes.step rfl;intro _ hRq;replace hF:=SFc.rely hF hRq;clear hRq;rw [stepG_seq];simp only [goes_go];refine ⟨Terms.idle termsG _,?_⟩)
  (co_apply Goes.step rfl;intro _ hRq;replace hF:=SFc.rely hF hRq;clear hRq;rw [stepG_region,ng4];simp only [goes_go,List.range,List.range.loop];refine ⟨Terms.idle termsG _,?_⟩;simp only [og4,qg4])
  (co_apply Goes.step rfl;intro _ hRq;replace hF:=SFc.rely hF hRq;clear hRq
   refine goes_oper_k rfl rfl (by decide) (fun Kq hKq => ?_)
   (have h0:=hF.low.va)
   go_simp
   try (unfold stored;go_simp)
   refine hKq _ _ ⟨?_,?_⟩
   · (refine dg_read (b:=E.ba) (.inr hF.low.la) (by have:=hF.low.la.1;have:=hF.bs.hB;omega) ?_;co_evs (exact ⟨_,rfl,rfl⟩))
   clear hKq Kq
   try walk_nrm)
  clear h0
  (co_apply Goes.step rfl;intro _ hRq;replace hF:=SFc.rely hF hRq;clear hRq
   refine goes_oper_k rfl rfl (by decide) (fun Kq hKq => ?_)
   (skip)
   go_simp
   try (unfold stored;go_simp)
   refine hKq _ _ ⟨?_,?_⟩
   · (co_quiet termsG)
   clear hKq Kq
   try walk_nrm)
  (co_apply Goes.step rfl;intro _ hRq;replace hF:=SFc.rely hF hRq;clear hRq
   refine goes_oper_k rfl rfl (by decide) (fun Kq hKq => ?_)
   (skip)
   go_simp
   try (unfold stored;go_simp)
   refine hKq _ _ ⟨?_,?_⟩
   · (co_quiet termsG)
   clear hKq Kq
   try walk_nrm)
  (co_apply Goes.step rfl;intro _ hRq;replace hF:=SFc.rely hF hRq;clear hRq;rw [stepG_region_end];simp only [goes_go];refine ⟨Terms.idle termsG _,?_⟩)
  (co_apply Goes.step rfl;intro _ hRq;replace hF:=SFc.rely hF hRq;clear hRq;rw [stepG_block];simp only [goes_go];refine ⟨Terms.idle termsG _,?_⟩)
  (co_apply Goes.step rfl;intro _ hRq;replace hF:=SFc.rely hF hRq;clear hRq;rw [stepG_loop];simp only [goes_go];refine ⟨Terms.idle termsG _,?_⟩)
  exact hm _ _ [] s0 (tc_mk rfl) hF (fun x=>⟨fun h=>by simp at h,fun h=>absurd h (by omega)⟩)
end
end Go.Proofs.YtkpcmfgeanlcnabGreatDoor

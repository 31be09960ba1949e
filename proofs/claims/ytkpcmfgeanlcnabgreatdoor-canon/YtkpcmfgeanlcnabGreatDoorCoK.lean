/-
  In company: bytes multiplied and inverted.
-/
import Derived.Test.YtkpcmfgeanlcnabGreatDoorCoC
import Derived.Test.YtkpcmfgeanlcnabGreatDoorCoV
import Derived.Test.YtkpcmfgeanlcnabGreatDoorSame
namespace Go.Proofs.YtkpcmfgeanlcnabGreatDoor
open Go.Conc Go.RowKit Go.Gh
open Go.ConcR (Payload)
section
variable {main:Bool} {R:World→World→Prop} {D:World→World→Array Event→Prop}
def MI (R:World→World→Prop) (w0:World) (m:Nat) (a:Act) (w:World):Prop:=∃ (k p x y:Nat) (v2 v3 v4 v7 v8 v9 v10 v11 v12 v13 v14 v15 v16 v17 v18 v19:Value),k≤8∧p < 256∧x < 256∧y < 256∧Hid (mulN (8 - k) p x y=m)∧Since R w0 w∧a=⟨#[.int .u8 ((x:Nat):Int),.int .u8 ((y:Nat):Int),v2,v3,v4,.int .u8 ((p:Nat):Int),.int .i64 ((k:Nat):Int),v7,v8,v9,v10,v11,v12,v13,v14,v15,v16,v17,v18,v19],[]⟩
def muM (a:Act) (_:World):Nat:=8 - (intOf (a.tmps.getD 6 undef)).toNat
set_option maxRecDepth 100000 in
set_option maxHeartbeats 1000000 in
theorem mul_c (T:Terms R D):∃ n,∀ (a b:Nat) (w:World),a < 256→b < 256→CallsC Tryz.prog main R D 128 #[.int .u8 (a:Int),.int .u8 (b:Int)] n w fun v w'=>v = .int .u8 (mul a b:Nat)∧Since R w w':=by
  obtain ⟨kx,hx⟩:=timesX_c (main:=main) T
  co_apply Exists.intro
  intro a b w ha hb
  co_apply callsC_of_wpC Tryz.func128 (by rfl) rfl
  have hF:Since R w w:=.refl w
  simp only [Tryz.ntmps128,List.size_toArray,List.length_cons,List.length_nil,Nat.reduceAdd,Nat.reduceSub,Array.replicate_succ,Array.replicate_zero,List.push_toArray,List.append_toArray,List.nil_append,List.cons_append]
  co_go T (Since.rely T) hF (co_quiet T)
  co_apply wpC_loop T (MI R w (mul a b)) muM _ 8
  · exact ⟨0,0,a,b,_,_,_,_,_,_,_,_,_,_,_,_,_,_,_,_,by omega,by omega,ha,hb,rfl,hF,rfl⟩
  · simp [muM]
  · rintro act w' ⟨k,p,x,y,v2,v3,v4,v7,v8,v9,v10,v11,v12,v13,v14,v15,v16,v17,v18,v19,hk,hp,hx',hy,H,hF,rfl⟩
    co_go T (Since.rely T) hF (co_quiet T)
    co_split T (decide (((k:Nat):Int) < 8))
    · intro hlt
      have hlt':k < 8:=by have:=of_decide_eq_true hlt;omega
      clear hlt
      have hand:=u8_and1 y hy
      have G:=mulN_step hlt' H.out
      clear H
      co_ctl T
      co_then
      co_ctl T
      co_ctl T
      co_apply wpC_seq_mid T (fun a' w'=>∃ (p':Nat) (v8 v9 v10 v11 v12 v13:Value),p' < 256∧p' = (if y % 2=1 then p ^^^ x else p)∧Since R w w' ∧ a' = ⟨#[.int .u8 ((x:Nat):Int),.int .u8 ((y:Nat):Int),v2,v3,v4,.int .u8 ((p':Nat):Int),.int .i64 ((k:Nat):Int),.bool (decide (((k:Nat):Int) < 8)),v8,v9,v10,v11,v12,v13,v14,v15,v16,v17,v18,v19],[]⟩)
      · co_go T (Since.rely T) hF (co_quiet T)
        co_split T (((y:Nat):Int) % 2 == 1)
        · intro h1
          have h2:y % 2=1:=by simp at h1;omega
          clear h1
          co_go T (Since.rely T) hF (co_quiet T)
          rw [u8_xor_b hp hx']
          exact ⟨p ^^^ x,_,_,_,_,_,_,xor_lt hp hx',by rw [if_pos h2],hF,rfl⟩
        · intro h1
          have h2:¬ y % 2=1:=by simp at h1;omega
          clear h1
          co_go T (Since.rely T) hF (co_quiet T)
          exact ⟨p,_,_,_,_,_,_,hp,by rw [if_neg h2],hF,rfl⟩
      · clear hF
        rintro a' w' ⟨p',v8,v9,v10,v11,v12,v13,hp',hpe,hF,rfl⟩
        rw [← hpe] at G
        clear hpe
        co_go T (Since.rely T) hF (co_quiet T)
        co_apply opsC_call T rfl (by rfl) rfl
        · walk_nrm
          exact hx _ _ hx'
        rintro v w' ⟨rfl,hs⟩
        replace hF:Since R w w':=hs.elim (fun e=>e ▸ hF) (fun r=>Since.rely T hF r)
        clear hs
        walk_nrm
        co_go T (Since.rely T) hF (co_quiet T)
        have e1:((y:Nat):Int) / 2=((y / 2:Nat):Int):=by omega
        have e2:IntKind.i64.wrap (((k:Nat):Int)+1)=((k+1:Nat):Int):=by rw [IntKind.wrap_i64];omega
        simp only [e1,e2]
        refine ⟨⟨k+1,p',tx x,y / 2,_,_,_,_,_,_,_,_,_,_,_,_,_,_,_,_,by omega,hp',tx_lt hx',by omega,G,hF,rfl⟩,?_⟩
        simp [muM,intOf]
        omega
    · intro hlt
      obtain rfl:k=8:=by have:=of_decide_eq_false hlt;omega
      clear hlt
      co_go T (Since.rely T) hF (co_quiet T)
      refine ⟨rfl,_,resultsC_tmp (by rfl) _,?_,hF⟩
      have G:p=mul a b:=H.out
      simp [G]
def II (R:World→World→Prop) (w0:World) (m:Nat) (a:Act) (w:World):Prop:=∃ (k p x:Nat) (v0 v1 v2 v5 v7 v8 v9 v10 v11 v12 v13 v14 v15:Value),k≤7∧p < 256∧x < 256∧Hid (invN (7 - k) p x=m)∧Since R w0 w∧a=⟨#[v0,v1,v2,.int .u8 ((p:Nat):Int),.int .u8 ((x:Nat):Int),v5,.int .i64 ((k:Nat):Int),v7,v8,v9,v10,v11,v12,v13,v14,v15],[]⟩
def muI7 (a:Act) (_:World):Nat:=7 - (intOf (a.tmps.getD 6 undef)).toNat
set_option maxRecDepth 100000 in
set_option maxHeartbeats 1000000 in
theorem inv_c (T:Terms R D):∃ n,∀ (a:Nat) (w:World),a < 256→CallsC Tryz.prog main R D 103 #[.int .u8 (a:Int)] n w fun v w'=>v = .int .u8 (inv a:Nat)∧Since R w w':=by
  obtain ⟨kx,hx⟩:=mul_c (main:=main) T
  co_apply Exists.intro
  intro a w ha
  co_apply callsC_of_wpC Tryz.func103 (by rfl) rfl
  have hF:Since R w w:=.refl w
  simp only [Tryz.ntmps103,List.size_toArray,List.length_cons,List.length_nil,Nat.reduceAdd,Nat.reduceSub,Array.replicate_succ,Array.replicate_zero,List.push_toArray,List.append_toArray,List.nil_append,List.cons_append]
  co_go T (Since.rely T) hF (co_quiet T)
  co_apply wpC_loop T (II R w (inv a)) muI7 _ 7
  · exact ⟨0,a,1,_,_,_,_,_,_,_,_,_,_,_,_,_,by omega,ha,by omega,rfl,hF,rfl⟩
  · simp [muI7]
  · rintro act w' ⟨k,p,x,v0,v1,v2,v5,v7,v8,v9,v10,v11,v12,v13,v14,v15,hk,hp,hx',H,hF,rfl⟩
    co_go T (Since.rely T) hF (co_quiet T)
    co_split T (decide (((k:Nat):Int) < 7))
    · intro hlt
      have hlt':k < 7:=by have:=of_decide_eq_true hlt;omega
      clear hlt
      have hpp:mul p p < 256:=mul_lt hp
      co_go T (Since.rely T) hF (co_quiet T)
      co_apply opsC_call T rfl (by rfl) rfl
      · walk_nrm
        exact hx _ _ _ hp hp
      rintro v w' ⟨rfl,hs⟩
      replace hF:Since R w w':=hs.elim (fun e=>e ▸ hF) (fun r=>Since.rely T hF r)
      clear hs
      walk_nrm
      co_go T (Since.rely T) hF (co_quiet T)
      co_apply opsC_call T rfl (by rfl) rfl
      · walk_nrm
        exact hx _ _ _ hx' hpp
      rintro v w' ⟨rfl,hs⟩
      replace hF:Since R w w':=hs.elim (fun e=>e ▸ hF) (fun r=>Since.rely T hF r)
      clear hs
      walk_nrm
      co_go T (Since.rely T) hF (co_quiet T)
      have e2:IntKind.i64.wrap (((k:Nat):Int)+1)=((k+1:Nat):Int):=by rw [IntKind.wrap_i64];omega
      simp only [e2]
      refine ⟨⟨k+1,mul p p,mul x (mul p p),_,_,_,_,_,_,_,_,_,_,_,_,_,by omega,hpp,mul_lt hx',invN_step hlt' H.out,hF,rfl⟩,?_⟩
      simp [muI7,intOf]
      omega
    · intro hlt
      obtain rfl:k=7:=by have:=of_decide_eq_false hlt;omega
      clear hlt
      co_go T (Since.rely T) hF (co_quiet T)
      refine ⟨rfl,_,resultsC_tmp (by rfl) _,?_,hF⟩
      have G:x=inv a:=H.out
      simp [G]
end
def rowL (k i c:Nat):List Nat:=(List.range k).map fun j=>if j < c then rowV k i j else 0
theorem rowL_zero (k i:Nat):rowL k i 0=List.replicate k 0:=by
  unfold rowL
  apply List.ext_getElem?
  intro j
  by_cases h:j < k <;> simp [h]
theorem rowL_set (k i c:Nat) (hc:c < k):(rowL k i c).set c (rowV k i c)=rowL k i (c+1):=by
  unfold rowL
  apply List.ext_getElem?
  intro j
  rw [List.getElem?_set]
  by_cases h:c=j
  · subst h
    simp [hc]
  · rw [if_neg h]
    by_cases hj:j < k
    · simp only [List.getElem?_map,List.getElem?_range hj,Option.map_some]
      by_cases h1:j < c
      · rw [if_pos h1,if_pos (by omega)]
      · rw [if_neg h1,if_neg (by omega)]
    · simp [hj]
theorem rowL_end (k i:Nat):rowL k i k=(List.range k).map (rowV k i):=by
  unfold rowL
  exact List.map_congr_left fun j hj=>by rw [if_pos (by simpa using hj)]
theorem rowL_unit (k i:Nat) (hi:i < k):(List.replicate k 0).set i 1=(List.range k).map (rowV k i):=by
  apply List.ext_getElem?
  intro j
  rw [List.getElem?_set]
  by_cases h:i=j
  · subst h
    simp [hi,rowV]
  · rw [if_neg h]
    by_cases hj:j < k
    · simp [hj,rowV,hi,Ne.symm h]
    · simp [hj]
section
variable [Payload] [OldG] {main:Bool} {Wg C n B:Nat} {Cl:Nat→Prop}
omit [OldG] in
theorem CG.set {w0 w:World} (h0:Bs C B w0) {N:Nat} {cur:List Nat} (h:CG Wg C n B Cl w0 N cur w) (i x:Nat):CG Wg C n B Cl w0 N (cur.set i x) (w.setCell ⟨N,i,none⟩ (.int .u8 ((x:Nat):Int))):=
  ⟨h.bs.set _ _,ex_fresh h.ex h0 h.lo _,h.lo,mine_grow (w:=w) (w':=w.setCell _ _) rfl (by rw [sz_set];omega) h.mn,by rw [heap_set w h.hx,bytesA_set]⟩
omit [Payload] [OldG] in
theorem make_c (k:Nat) (hk:k≤128):(∀ w:World,(Instr.makeSlice 33 (.int .i64 (k:Int)) (.int .i64 (k:Int))).run Tryz.prog w = .ok (.slice (some ⟨w.heap.size,0,none⟩) k k) (w.alloc (.cells (madeCells #[.int .u8 0] k) 5)))∧∀ (w:World) (es:Array Event),(Instr.makeSlice 33 (.int .i64 (k:Int)) (.int .i64 (k:Int))).events Tryz.prog w es=es:=by
  obtain ⟨i0,hi,hz0,hz1,hz2⟩:=info_parts info_u8
  refine ⟨fun w => ?_,fun w es => ?_⟩
  · have:=run_make (P:=Tryz.prog) w 33 5 i0 (.int .u8 0) Tryz.underlying33 hi hz0 .i64 .i64 (k:Int) (k:Int) (by omega) (by omega) (by rw [hz2];omega) (by omega)
    rw [hz1,show (Value.int .u8 0).cells = #[.int .u8 0] from rfl] at this
    simpa using this
  · exact events_make (P:=Tryz.prog) w 33 5 i0 (.int .u8 0) Tryz.underlying33 hi hz0 .i64 .i64 (k:Int) (k:Int) (by omega) (by omega) (by rw [hz2];omega) (by omega) (by rw [hz2];simp;omega) es
set_option maxRecDepth 100000 in
set_option maxHeartbeats 2000000 in
theorem unitRow_c (k i:Nat) (hk:k≤128) (hi:i < k):∃ q,∀ (w:World),Bs C B w →
    CallsC Tryz.prog main (Ro Wg C n B Cl) (Dg Wg C n B Cl) 102 #[.int .i64 ((k:Nat):Int),.int .i64 ((i:Nat):Int)] q w fun v w'=>∃ N,v = .slice (some ⟨N,0,none⟩) k k∧CG Wg C n B Cl w N ((List.range k).map (rowV k i)) w':=by
  obtain ⟨hmk,hme⟩:=make_c k hk
  have hiI:(i:Int) < (k:Int):=by omega
  co_apply Exists.intro
  intro w hb
  co_apply callsC_of_wpC Tryz.func102 (by rfl) rfl
  simp only [Tryz.ntmps102,List.size_toArray,List.length_cons,List.length_nil,Nat.reduceAdd,Nat.reduceSub,Array.replicate_succ,Array.replicate_zero,List.push_toArray,List.append_toArray,List.nil_append,List.cons_append]
  have hF:CF Wg C n B Cl w w:=⟨hb,.refl w⟩
  co_apply wpC_seq termsG
  co_reg termsG
  co_op CF.rely hF (co_quiet termsG)
  co_apply opsC_nil termsG
  co_then
  co_apply wpC_seq termsG
  co_reg termsG
  co_op CF.rely hF (co_quiet termsG)
  co_opw CF.rely hF (skip) (rw [listed_nil (by simp [go_sem, *])];exact dg_alloc hF.bs.hC _ rfl)
  replace hF:=hF.alloc k
  generalize hN:Array.size (World.heap _)=N at hF ⊢
  clear hN
  co_op CG.rely hF (co_quiet termsG)
  co_apply opsC_nil termsG
  co_then
  co_apply wpC_seq termsG
  co_reg termsG
  co_op CG.rely hF (co_quiet termsG)
  co_op CG.rely hF (co_quiet termsG)
  co_opw CG.rely hF (skip) (co_still termsG)
  have hNC:N≠C:=by have:=hF.lo;have:=hb.hC;omega
  have hu:∀ {w:World} (h:w.heap[N]? = some (.cells (bytesA (List.replicate k 0)) 5)),w.cell? ⟨N,i,none⟩=some (.int .u8 0)∧w.frozen? ⟨N,i,none⟩=false:=fun h=>⟨by rw [cell_of _ h,bytesA_get];simp [hi],thaw_of _ h i⟩
  co_opw CG.rely hF (have hc:=(hu hF.hx).1;have hz:=(hu hF.hx).2) (refine dg_set hF.mn hNC (hF.bs.lt hF.mn) ?_;co_evs (exact ⟨_,_,rfl,rfl⟩))
  replace hF:=hF.set hb i 1
  rw [rowL_unit k i hi] at hF
  clear hc hz
  co_apply opsC_nil termsG
  co_then
  co_apply wpC_seq termsG
  co_reg termsG
  co_op CG.rely hF (co_quiet termsG)
  co_op CG.rely hF (co_quiet termsG)
  co_apply opsC_nil termsG
  co_then
  co_apply wpC_ret termsG
  exact ⟨rfl,_,resultsC_tmp (by rfl) _,N,rfl,hF⟩
def RoI (Wg C n B:Nat) (Cl:Nat→Prop) (w0:World) (k i N:Nat) (a:Act) (w:World):Prop:=
  ∃ (j:Nat) (v2 v3 v4 v6 v7 v8 v9 v10 v11 v12 v13 v14 v15 v18 v19 v20 v21 v22 v23 v24 v25 v26 v27 v28 v29:Value),j≤k∧CG Wg C n B Cl w0 N (rowL k i j) w∧a=⟨#[.int .i64 ((k:Nat):Int),.int .i64 ((i:Nat):Int),v2,v3,v4,.slice (some ⟨N,0,none⟩) k k,v6,v7,v8,v9,v10,v11,v12,v13,v14,v15,.int .i64 ((k:Nat):Int),.int .i64 ((j:Nat):Int),v18,v19,v20,v21,v22,v23,v24,v25,v26,v27,v28,v29],[]⟩
def muR (k:Nat) (a:Act) (_:World):Nat:=k - (intOf (a.tmps.getD 17 undef)).toNat
set_option maxRecDepth 100000 in
set_option maxHeartbeats 2000000 in
theorem row_c (k i:Nat) (hk:k≤128) (hi:i < 128):∃ q,∀ (w:World),Bs C B w →
    CallsC Tryz.prog main (Ro Wg C n B Cl) (Dg Wg C n B Cl) 66 #[.int .i64 ((k:Nat):Int),.int .i64 ((i:Nat):Int)] q w fun v w'=>∃ N,v = .slice (some ⟨N,0,none⟩) k k∧CG Wg C n B Cl w N ((List.range k).map (rowV k i)) w':=by
  obtain ⟨hmk,hme⟩:=make_c k hk
  by_cases hik:i < k
  · obtain ⟨qu,hu⟩:=unitRow_c (main:=main) (Wg:=Wg) (C:=C) (n:=n) (B:=B) (Cl:=Cl) k i hk hik
    have hiI:(i:Int) < (k:Int):=by omega
    co_apply Exists.intro
    intro w hb
    co_apply callsC_of_wpC Tryz.func66 (by rfl) rfl
    simp only [Tryz.ntmps66,List.size_toArray,List.length_cons,List.length_nil,Nat.reduceAdd,Nat.reduceSub,Array.replicate_succ,Array.replicate_zero,List.push_toArray,List.append_toArray,List.nil_append,List.cons_append]
    have hF:CF Wg C n B Cl w w:=⟨hb,.refl w⟩
    co_apply wpC_seq termsG
    co_reg termsG
    co_op CF.rely hF (co_quiet termsG)
    co_apply opsC_nil termsG
    co_then
    co_apply wpC_seq termsG (n₂:=0)
    co_apply wpC_seq termsG
    co_reg termsG
    co_op CF.rely hF (co_quiet termsG)
    co_op CF.rely hF (co_quiet termsG)
    co_op CF.rely hF (co_quiet termsG)
    co_apply opsC_nil termsG
    co_then
    co_apply wpC_cond termsG (t:=true)
    focus (simp [Act.eval])
    simp only [if_true]
    co_go termsG CF.rely hF (co_quiet termsG)
    co_apply opsC_call termsG rfl (by rfl) rfl
    · walk_nrm
      exact hu _ hF.bs
    rintro v w' ⟨N,rfl,hg⟩
    replace hF:CG Wg C n B Cl w N ((List.range k).map (rowV k i)) w':=⟨hg.bs,hF.ex.trans hg.ex,Nat.le_trans hF.ex.size hg.lo,hg.mn,hg.hx⟩
    clear hg
    walk_nrm
    co_go termsG CG.rely hF (co_quiet termsG)
    exact ⟨rfl,_,resultsC_tmp (by rfl) _,N,rfl,hF⟩
  · obtain ⟨qi,hv⟩:=inv_c (main:=main) (termsG (Wg:=Wg) (C:=C) (n:=n) (B:=B) (Cl:=Cl))
    have hiI:¬ ((i:Int) < (k:Int)):=by omega
    co_apply Exists.intro
    intro w hb
    co_apply callsC_of_wpC Tryz.func66 (by rfl) rfl
    simp only [Tryz.ntmps66,List.size_toArray,List.length_cons,List.length_nil,Nat.reduceAdd,Nat.reduceSub,Array.replicate_succ,Array.replicate_zero,List.push_toArray,List.append_toArray,List.nil_append,List.cons_append]
    have hF:CF Wg C n B Cl w w:=⟨hb,.refl w⟩
    co_apply wpC_seq termsG
    co_reg termsG
    co_op CF.rely hF (co_quiet termsG)
    co_apply opsC_nil termsG
    co_then
    co_apply wpC_seq termsG
    co_apply wpC_seq termsG
    co_reg termsG
    co_op CF.rely hF (co_quiet termsG)
    co_op CF.rely hF (co_quiet termsG)
    co_op CF.rely hF (co_quiet termsG)
    co_apply opsC_nil termsG
    co_then
    co_apply wpC_cond termsG (t:=false)
    focus (simp [Act.eval])
    simp only [Bool.false_eq_true,if_false]
    co_apply wpC_skip termsG
    co_then
    co_apply wpC_seq termsG
    co_reg termsG
    co_op CF.rely hF (co_quiet termsG)
    co_opw CF.rely hF (skip) (rw [listed_nil (by simp [go_sem, *])];exact dg_alloc hF.bs.hC _ rfl)
    replace hF:=hF.alloc k
    rw [← rowL_zero k i] at hF
    generalize hN:Array.size (World.heap _)=N at hF ⊢
    clear hN
    have hNC:N≠C:=by have:=hF.lo;have:=hb.hC;omega
    co_op CG.rely hF (co_quiet termsG)
    co_apply opsC_nil termsG
    co_then
    co_apply wpC_seq termsG
    co_apply wpC_seq termsG
    co_reg termsG
    co_op CG.rely hF (co_quiet termsG)
    co_op CG.rely hF (co_quiet termsG)
    co_op CG.rely hF (co_quiet termsG)
    co_apply opsC_nil termsG
    co_then
    co_apply wpC_block termsG
    co_apply wpC_loop termsG (RoI Wg C n B Cl w k i N) (muR k) _ k
    · exact ⟨0,_,_,_,_,_,_,_,_,_,_,_,_,_,_,_,_,_,_,_,_,_,_,_,_,_,Nat.zero_le _,hF,rfl⟩
    · simp [muR]
    rintro a w' ⟨j,v2,v3,v4,v6,v7,v8,v9,v10,v11,v12,v13,v14,v15,v18,v19,v20,v21,v22,v23,v24,v25,v26,v27,v28,v29,hj,hF,rfl⟩
    co_apply wpC_seq termsG
    co_reg termsG
    co_op CG.rely hF (co_quiet termsG)
    co_apply opsC_nil termsG
    co_then
    co_apply wpC_seq termsG
    co_split termsG (decide ((j:Int) < (k:Int)))
    · intro hjl
      have hjl':j < k:=by have:=of_decide_eq_true hjl;omega
      have hjI:(j:Int) < (k:Int):=by omega
      clear hjl
      have hx128:i ^^^ j < 128:=xor_lt128 hi (by omega)
      have hxr:bits .xor .i64 ((i:Nat):Int) ((j:Nat):Int)=((i ^^^ j:Nat):Int):=i64_xor_nat _ _ (by omega) (by omega)
      have hcv:IntKind.u8.wrap (((i ^^^ j:Nat):Int))=((i ^^^ j:Nat):Int):=by rw [IntKind.wrap_u8];omega
      have hrv:rowV k i j=inv (i ^^^ j):=by unfold rowV;rw [if_neg hik,Nat.mod_eq_of_lt (by omega)]
      co_ctl termsG
      co_then
      co_ctl termsG
      co_ctl termsG
      co_ctl termsG
      co_reg termsG
      co_op CG.rely hF (co_quiet termsG)
      co_op CG.rely hF (co_quiet termsG)
      co_apply opsC_nil termsG
      co_then
      co_reg termsG
      co_op CG.rely hF (co_quiet termsG)
      co_op CG.rely hF (co_quiet termsG)
      co_op CG.rely hF (co_quiet termsG)
      co_op CG.rely hF (co_quiet termsG)
      co_op CG.rely hF (co_quiet termsG)
      have hce:∀ (w:World) (es:Array Event),(convert 3 5 (.int .i64 ((i ^^^ j:Nat):Int))).events Tryz.prog w es=es:=fun w es=>by simp [convert,Conv.intToInt,go_sem,Tryz.runUnderlying3,Tryz.runUnderlying5]
      co_opw CG.rely hF (skip) (co_still termsG)
      clear hce
      co_apply opsC_call termsG rfl (by rfl) rfl
      · walk_nrm
        exact hv _ _ (show i ^^^ j < 256 by omega)
      rintro v w' ⟨rfl,hs⟩
      replace hF:CG Wg C n B Cl w N (rowL k i j) w':=hs.elim (fun e=>e ▸ hF) (fun r=>hF.rely r)
      clear hs
      walk_nrm
      co_opw CG.rely hF (skip) (co_still termsG)
      have hcl:∀ {w:World} (h:w.heap[N]? = some (.cells (bytesA (rowL k i j)) 5)),w.cell? ⟨N,j,none⟩=some (.int .u8 0)∧w.frozen? ⟨N,j,none⟩=false:=fun h=>⟨by rw [cell_of _ h,bytesA_get];simp [rowL,hjl'],thaw_of _ h j⟩
      co_opw CG.rely hF (have hc:=(hcl hF.hx).1;have hz:=(hcl hF.hx).2) (refine dg_set hF.mn hNC (hF.bs.lt hF.mn) ?_;co_evs (exact ⟨_,_,rfl,rfl⟩))
      replace hF:=hF.set hb j (inv (i ^^^ j))
      rw [show (rowL k i j).set j (inv (i ^^^ j))=rowL k i (j+1) from by rw [← hrv,rowL_set k i j hjl']] at hF
      clear hc hz
      co_apply opsC_nil termsG
      co_then
      co_reg termsG
      co_op CG.rely hF (co_quiet termsG)
      co_op CG.rely hF (co_quiet termsG)
      co_apply opsC_nil termsG
      co_then
      have hw1:IntKind.i64.wrap ((j:Int)+1)=((j+1:Nat):Int):=by rw [IntKind.wrap_i64];omega
      simp only [hw1]
      refine ⟨⟨j+1,_,_,_,_,_,_,_,_,_,_,_,_,_,_,_,_,_,_,_,_,_,_,_,_,_,by omega,hF,rfl⟩,?_⟩
      simp [muR,intOf]
      omega
    · intro hjl
      obtain rfl:j=k:=by have:=of_decide_eq_false hjl;omega
      clear hjl
      rw [rowL_end] at hF
      co_go termsG CG.rely hF (co_quiet termsG)
      exact ⟨rfl,_,resultsC_tmp (by rfl) _,N,rfl,hF⟩
end
end Go.Proofs.YtkpcmfgeanlcnabGreatDoor
namespace Go.Proofs.YtkpcmfgeanlcnabGreatDoor
open Go.Conc Go.ConcN Go.RowKit Go.Gh Go.Conc.Lib Go.ConcR.Gen Go.ConcN.Gen
open Go.ConcR (Payload)
structure CapC where
  ba:Nat
  bj:Nat
  bk:Nat
  bd:Nat
  bD:Nat
  oD:Nat
  cD:Nat
theorem callsC_le {P:Program} {main:Bool} {R:World→World→Prop} {D:World→World→Array Event→Prop} {f:FuncId} {args:Array Value} {n m:Nat} {w:World} {Post:Value→World→Prop} (h:CallsC P main R D f args n w Post) (hn:n≤m):CallsC P main R D f args m w Post:=
  let ⟨fn,c,h1,h2,h3,h4⟩:=h
  ⟨fn,c,h1,h2,h3,wpC_more h4 hn⟩
section
variable [Payload] [OldG] {main:Bool} {Wg C n B:Nat} {Cl:Nat→Prop}
structure WIc (Wg C n B:Nat) (c:CapC) (k L idx:Nat) (cs:List Col) (w:World):Prop where
  bs:Bs C B w
  pay:PayAt C n w
  ra:Rdb Wg C B w c.ba
  va:w.cell? ⟨c.ba,0,none⟩=some (.slice (some ⟨C,0,none⟩) n n)
  rj:Rdb Wg C B w c.bj
  vj:w.cell? ⟨c.bj,0,none⟩=some (.int .i64 ((idx:Nat):Int))
  rk:Rdb Wg C B w c.bk
  vk:w.cell? ⟨c.bk,0,none⟩=some (.int .i64 ((k:Nat):Int))
  rd:Rdb Wg C B w c.bd
  vd:w.cell? ⟨c.bd,0,none⟩=some (.slice (some ⟨c.bD,c.oD,none⟩) k c.cD)
  rc:Rdb Wg C B w c.bD
  hc:∀ j d,cs[j]? = some d→w.cell? ⟨c.bD,c.oD+j,none⟩=some (.slice d.bs L d.co)
  hcol:∀ d∈cs,Rdb Wg C B w d.bo∧(0 < L→d.bs=some ⟨d.bo,d.oo,none⟩)∧∀ i y,d.ys[i]? = some y→w.cell? ⟨d.bo,d.oo+i,none⟩=some (.int .u8 ((y:Nat):Int))
theorem WIc.ex {w w₁:World} {c:CapC} {k L idx:Nat} {cs:List Col} (h:WIc Wg C n B c k L idx cs w) (hb:Bs C B w₁) (r:Ex Wg C n B Cl (fun _=>False) w w₁):WIc Wg C n B c k L idx cs w₁:=by
  have st:∀ {b:Nat},Rdb Wg C B w b→∀ o,w₁.cell? ⟨b,o,none⟩=w.cell? ⟨b,o,none⟩:=fun hb o=>by simp only [World.cell?,r.stands hb id]
  exact ⟨hb,r.pay h.pay,r.rdb h.ra,(st h.ra _).trans h.va,r.rdb h.rj,(st h.rj _).trans h.vj,r.rdb h.rk,(st h.rk _).trans h.vk,r.rdb h.rd,(st h.rd _).trans h.vd,r.rdb h.rc,fun j d e=>(st h.rc _).trans (h.hc j d e),fun d hd=>let ⟨h1,h2,h3⟩:=h.hcol d hd;⟨r.rdb h1,h2,fun i y e=>(st h1 _).trans (h3 i y e)⟩⟩
theorem WIc.rely {w w₁:World} {c:CapC} {k L idx:Nat} {cs:List Col} (h:WIc Wg C n B c k L idx cs w) (r:Ro Wg C n B Cl w w₁):WIc Wg C n B c k L idx cs w₁:=h.ex (h.bs.rely r) r.ex
theorem WIc.cin {w:World} {c:CapC} {k L idx N:Nat} {ws:List Nat} {cs:List Col} (h:WIc Wg C n B c k L idx cs w) (hm:Mine w N) (hx:w.heap[N]? = some (.cells (bytesA ws) 5)):CIn Wg C B N 0 c.bD c.oD L ws cs w:=
  ⟨.inl hm,h.bs.lt hm,h.rc,h.bs.rdb_lt h.rc,fun j x e=>by rw [Nat.zero_add,cell_of _ hx,bytesA_get,e];rfl,h.hc,fun d hd=>let ⟨h1,h2,h3⟩:=h.hcol d hd;⟨h1,h.bs.rdb_lt h1,h2,h3⟩⟩
def w0C:Frame:=baseD 63
noncomputable def wbotC:Frame:={ (default:Frame) with fn:=Tryz.prog.funcs.size,defers:=[],mode:=.panicking [goexitEntry] }
noncomputable def wbodyC:Code:=Tryz.f63.body.getD .skip
def caughtC (Wg:Nat) (c:CapC):Array Value:=#[.pointer (some ⟨Wg,0,none⟩),.pointer (some ⟨c.bk,0,none⟩),.pointer (some ⟨c.bj,0,none⟩),.pointer (some ⟨c.bd,0,none⟩),.pointer (some ⟨c.ba,0,none⟩)]
def wcallC (Wg:Nat) (c:CapC):Deferred:={ target:=.fn (.func 63) (caughtC Wg c),args:=#[] }
omit [Payload] [OldG] in
theorem w_bornC (c:CapC) (w:World):stepG Tryz.prog false (born Tryz.prog (wcallC Wg c)) w = .go (G (w0C.at ⟨caughtC Wg c++Array.replicate 8 undef,[]⟩ [.code wbodyC]) [wbotC]) w #[]:=by
  simp [born,wcallC,caughtC,stepG,unwind,callDeferred,invoke,callFunc,Tryz.func63,Tryz.f63,seen,GStep.after,G,Frame.enter,Frame.at,w0C,baseD,wbotC,wbodyC]
omit [Payload] [OldG] in
theorem w_quitsC (T:Array Value):QuitsD Tryz.prog 2 0 (G { w0C.at ⟨T,[]⟩ [] with mode:=.returning } [wbotC]):=by
  refine QuitsD.ctl (g':=G wbotC []) rfl (fun w => ?_) ?_
  · simp [G,stepG,unwind,doReturn,results,Frame.at,w0C,baseD,wbotC,Tryz.func63,Tryz.f63,seen,GStep.after,goexitEntry]
  refine QuitsD.ctl (g':={ G wbotC [] with status:=.finished }) rfl (fun w => ?_) ⟨rfl,rfl⟩
  simp [G,stepG,unwind,wbotC,goexitEntry,Frame.catches]
  rfl
set_option maxRecDepth 100000 in
set_option maxHeartbeats 4000000 in
theorem worksC (k L:Nat) (hk0:0 < k) (hk:k≤128) (hn:n≤128) (hL:L≤140737488355328) (idx:Nat) (hidx:idx < n):∃ m,∀ (w:World) (c:CapC) (cs:List Col) (res:Nat→List Nat),cs.length=k→(∀ c∈cs,LenIs c.ys L∧∀ y∈c.ys,y < 256) →
    res idx=comb (zsOf ((List.range k).map (rowV k idx)) cs) (List.replicate L 0)→WIc Wg C n B c k L idx cs w→Wk Tryz.prog link.tWg Wg C n B (WPr C L res) idx m (born Tryz.prog (wcallC Wg c)) w:=by
  obtain ⟨q1,hq1⟩:=row_c (main:=false) (Wg:=Wg) (C:=C) (n:=n) (B:=B) (Cl:=(· = idx)) k idx hk (by omega)
  obtain ⟨q2,hq2⟩:=combine_c (main:=false) (Wg:=Wg) (C:=C) (n:=n) (B:=B) (Cl:=(· = idx)) k L hk0 hk hL
  refine ⟨?m,fun w c cs res hlc hcs hres hF => ?_⟩
  case m=>exact (3+(9*(max q1 q2+3)+1+1))+1+1+1+1+1
  have hiI:(idx:Int) < (n:Int):=by omega
  have T:=termsG (Wg:=Wg) (C:=C) (n:=n) (B:=B) (Cl:=(· = idx))
  have hlr:LenIs ((List.range k).map (rowV k idx)) k:=by simp [LenIs]
  have hrl:∀ x∈(List.range k).map (rowV k idx),x < 256:=fun x hx=>by
    obtain ⟨j,_,rfl⟩:=List.mem_map.1 hx
    exact rowV_lt
  unfold Wk
  refine Goes.step rfl fun w₁ h₁ => ?_
  replace hF:=hF.rely h₁
  clear h₁
  rw [w_bornC]
  refine ⟨T.idle _,?_⟩
  simp only [caughtC,wbodyC,Tryz.f63,Option.getD_some,Array.replicate_succ,Array.replicate_zero,List.push_toArray,List.append_toArray,List.nil_append,List.cons_append]
  refine Goes.step rfl fun w₁ h₁ => ?_
  replace hF:=hF.rely h₁
  clear h₁
  rw [stepG_seq]
  refine ⟨T.idle _,?_⟩
  refine Goes.step rfl fun w₁ h₁ => ?_
  replace hF:=hF.rely h₁
  clear h₁
  rw [stepG_region]
  refine ⟨T.idle _,?_⟩
  simp only [List.size_toArray,List.length_cons,List.length_nil,Nat.zero_add,List.range,List.range.loop]
  refine Goes.step rfl fun w₁ h₁ => ?_
  replace hF:=hF.rely h₁
  clear h₁
  rw [stepG_defer rfl rfl (by decide) rfl]
  refine ⟨T.idle _,?_⟩
  walk_nrm
  refine Goes.step rfl fun w₁ h₁ => ?_
  replace hF:=hF.rely h₁
  clear h₁
  rw [stepG_region_end]
  refine ⟨T.idle _,?_⟩
  refine wpC_goes (m:=3) (Q:=fun e a' w'=>e = .normal∧a'.defers=[dcall 64 #[.pointer (some ⟨Wg,0,none⟩)]]∧∃ v,WD1 C L res idx v w') (wpC_region_any T drawG (S:=WIc Wg C n B c k L idx cs) (lst:=8) (nf:=max q1 q2) (by kernel_rfl) (fun w₁ h₁ => ?_)) rfl (by decide) ?_
  · replace hF:WIc Wg C n B c k L idx cs { w₁ with drawn:=w₁.drawn+1 }:=by
      have:=hF.rely h₁
      exact ⟨⟨this.bs.tg,this.bs.hC,this.bs.hB,this.bs.ow⟩,this.pay,this.ra,this.va,this.rj,this.vj,this.rk,this.vk,this.rd,this.vd,this.rc,this.hc,this.hcol⟩
    clear h₁
    have hSR:∀ x y,WIc Wg C n B c k L idx cs x→Ro Wg C n B (· = idx) x y→WIc Wg C n B c k L idx cs y:=fun _ _ h r=>h.rely r
    have hQR:∀ (a:Act) (x y:World),(Exit.normal = .normal∧a.defers=[dcall 64 #[.pointer (some ⟨Wg,0,none⟩)]]∧∃ v,WD1 C L res idx v x)→Ro Wg C n B (· = idx) x y→(Exit.normal = .normal∧a.defers=[dcall 64 #[.pointer (some ⟨Wg,0,none⟩)]]∧∃ v,WD1 C L res idx v y):=fun a x y ⟨h1,h2,v,h3⟩ r=>⟨h1,h2,v,h3.rely r⟩
    generalize { w₁ with drawn:=w₁.drawn+1 } = w2 at hF ⊢
    simp only [List.size_toArray,List.length_cons,List.length_nil,Nat.reduceAdd,Nat.zero_add]
    (co_applyP anyX_take T hSR hQR (i:=0) rfl (by kernel_rfl) (by kernel_rfl) (by kernel_rfl) (by kernel_rfl) (by kernel_rfl) (.inl ⟨by rfl,fun _ hw=>⟨run_eq_of ?runq1,?guarq1⟩⟩) hF ?restq1
     case runq1=>
       intro Kq hKq
       (have h1:=hw.va)
       go_simp
       exact hKq
     case guarq1=>
       (have h1:=hw.va)
       (refine dg_read hw.ra (hw.bs.rdb_lt hw.ra) ?_;co_evs (exact ⟨_,rfl,rfl⟩))
     try walk_nrm)
    (co_applyP anyX_take T hSR hQR (i:=1) rfl (by kernel_rfl) (by kernel_rfl) (by kernel_rfl) (by kernel_rfl) (by kernel_rfl) (.inl ⟨by rfl,fun _ hw=>⟨run_eq_of ?runq2,?guarq2⟩⟩) hF ?restq2
     case runq2=>
       intro Kq hKq
       (have h1:=hw.vj)
       go_simp
       exact hKq
     case guarq2=>
       (have h1:=hw.vj)
       (refine dg_read hw.rj (hw.bs.rdb_lt hw.rj) ?_;co_evs (exact ⟨_,rfl,rfl⟩))
     try walk_nrm)
    (co_applyP anyX_take T hSR hQR (i:=2) rfl (by kernel_rfl) (by kernel_rfl) (by kernel_rfl) (by kernel_rfl) (by kernel_rfl) (.inl ⟨by rfl,fun _ hw=>⟨run_eq_of ?runq3,?guarq3⟩⟩) hF ?restq3
     case runq3=>
       intro Kq hKq
       (have h1:=hw.vk)
       go_simp
       exact hKq
     case guarq3=>
       (have h1:=hw.vk)
       (refine dg_read hw.rk (hw.bs.rdb_lt hw.rk) ?_;co_evs (exact ⟨_,rfl,rfl⟩))
     try walk_nrm)
    (co_applyP anyX_take T hSR hQR (i:=3) rfl (by kernel_rfl) (by kernel_rfl) (by kernel_rfl) (by kernel_rfl) (by kernel_rfl) (.inl ⟨by rfl,fun _ hw=>⟨run_eq_of ?runq4,?guarq4⟩⟩) hF ?restq4
     case runq4=>
       intro Kq hKq
       (have h1:=hw.vj)
       go_simp
       exact hKq
     case guarq4=>
       (have h1:=hw.vj)
       (refine dg_read hw.rj (hw.bs.rdb_lt hw.rj) ?_;co_evs (exact ⟨_,rfl,rfl⟩))
     try walk_nrm)
    (co_applyP anyX_take T hSR hQR (i:=5) rfl (by kernel_rfl) (by kernel_rfl) (by kernel_rfl) (by kernel_rfl) (by kernel_rfl) (.inl ⟨by rfl,fun _ hw=>⟨run_eq_of ?runq5,?guarq5⟩⟩) hF ?restq5
     case runq5=>
       intro Kq hKq
       (have h1:=hw.vd)
       go_simp
       exact hKq
     case guarq5=>
       (have h1:=hw.vd)
       (refine dg_read hw.rd (hw.bs.rdb_lt hw.rd) ?_;co_evs (exact ⟨_,rfl,rfl⟩))
     try walk_nrm)
    refine anyX_one (i:=4) (by kernel_rfl) ⟨_,rfl,.inr (.inl ⟨by rfl,_,_,_,(fun v w'=>∃ N,v = .slice (some ⟨N,0,none⟩) k k∧CG Wg C n B (· = idx) w2 N ((List.range k).map (rowV k idx)) w'),rfl,by walk_nrm;exact callsC_le (hq1 w2 hF.bs) (Nat.le_max_left _ _),?_⟩)⟩
    rintro v w3 ⟨N1,rfl,hg1⟩
    replace hF:=hF.ex hg1.bs hg1.ex
    refine ⟨fun _=>hF,?_⟩
    walk_nrm
    refine anyX_one (i:=6) (by kernel_rfl) ⟨_,rfl,.inr (.inl ⟨by rfl,_,_,_,(fun v w'=>∃ N,v = .slice (some ⟨N,0,none⟩) L L∧CG Wg C n B (· = idx) w3 N (comb (zsOf ((List.range k).map (rowV k idx)) cs) (List.replicate L 0)) w'),rfl,by walk_nrm;exact callsC_le (hq2 w3 N1 0 k c.bD c.oD c.cD _ cs hlr hlc hrl hcs hF.bs (hF.cin hg1.mn hg1.hx)) (Nat.le_max_right _ _),?_⟩)⟩
    rintro v w' ⟨N,rfl,hg⟩
    have hN:N≠C:=by have:=hg.lo;have:=hF.bs.hC;omega
    replace hF:=hF.ex hg.bs hg.ex
    have hwp:WPr C L res idx (.slice (some ⟨N,0,none⟩) L L) w':=⟨N,rfl,hg.mn,hN,by rw [hres];exact hg.hx⟩
    clear hg
    refine ⟨fun _=>hF,?_⟩
    walk_nrm
    refine anyX_one_k (i:=7) (by kernel_rfl) rfl (by rfl) (fun w₁ hR K hK => ?_)
    replace hF:=hF.rely hR
    replace hwp:=hwp.rely hR
    clear hR
    go_simp
    refine hK _ _ ⟨?_,fun _=>hF,?_⟩
    · co_still T
    clear hK K
    walk_nrm
    refine anyX_one_k (i:=8) (by kernel_rfl) rfl (by rfl) (fun w₁ hR K hK => ?_)
    replace hF:=hF.rely hR
    replace hwp:=hwp.rely hR
    clear hR
    obtain ⟨u,hu1,hu2⟩:∃ u,w₁.cell? ⟨C,idx,none⟩=some u∧w₁.frozen? ⟨C,idx,none⟩=false:=by
      obtain ⟨arr,h1,h2⟩:=hF.pay
      exact ⟨arr[idx]'(by omega),by simp [World.cell?,h1,h2,hidx],by simp [World.frozen?,h1]⟩
    go_simp
    try (unfold stored;go_simp)
    refine hK _ _ ⟨?_,fun h=>absurd rfl h,?_⟩
    · refine dg_cell (Cl:=(· = idx)) hF.pay hF.bs.hC (i:=idx) rfl _ ?_
      co_evs (exact ⟨_,rfl⟩)
    clear hK K
    walk_nrm
    refine anyX_done (by kernel_rfl) ⟨rfl,rfl,.slice (some ⟨N,0,none⟩) L L,⟨N,rfl,?_,hN,?_⟩,cell_set hF.pay hidx _⟩ _
    · obtain ⟨N',e,hm,_⟩:=hwp
      cases e
      exact mine_grow (w:=w₁) (w':=w₁.setCell _ _) rfl (by rw [sz_set];omega) hm
    · obtain ⟨N',e,_,_,hh⟩:=hwp
      cases e
      exact (Below.heap_setCell _ _ _ _ hN).trans hh
  · rintro e a' w' ⟨rfl,hd,v,hk⟩
    show Goes _ _ _ _ _ 3 (G (w0C.at a' []) [wbotC]) w'
    refine Goes.step rfl fun w₁ h₁ => ?_
    replace hk:=hk.rely h₁
    clear h₁
    rw [stepG_end]
    refine ⟨T.idle _,?_⟩
    refine Goes.step rfl fun w₁ h₁ => ?_
    replace hk:=hk.rely h₁
    clear h₁
    rw [stepG_unwind_enter hd Tryz.func64 (nm_done link) rfl]
    refine ⟨T.idle _,?_⟩
    refine Goes.stop fun w₁ h₁ => ?_
    replace hk:=hk.rely h₁
    clear h₁
    refine ⟨rfl,v,hk.wp,hk.has,fun W h1 h2 => ?_⟩
    have hA:=@doneN _ link Tryz.prog wgLib NoF NoF Wg C n 0 (idx+1) v
    have:=hA (c:={ w0C.at ⟨a'.tmps,[]⟩ [] with mode:=.returning }) (cs:=[wbotC]) (qt:=2) rfl (w_quitsC a'.tmps) W ⟨h1,by simpa using h2⟩
    exact this
end
end Go.Proofs.YtkpcmfgeanlcnabGreatDoor

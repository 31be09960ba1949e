/-
  In company: a multiple of one row of bytes is added to another.
-/
import Derived.Test.YtkpcmfgeanlcnabGreatDoorCoC
import Derived.Test.YtkpcmfgeanlcnabGreatDoorChecked
import Derived.Conc.WgGenN3
import Derived.Test.YtkpcmfgeanlcnabGreatDoorGhL
import Derived.Conc.WgWords
namespace Go.Proofs.YtkpcmfgeanlcnabGreatDoor
open Go.Conc Go.RowKit Go.Gh
open Go.ConcR (Payload)
def bytesA (xs:List Nat):Array Value:=(xs.map fun x=>(Value.int .u8 ((x:Nat):Int))).toArray
theorem bytesA_get (xs:List Nat) (i:Nat):(bytesA xs)[i]? = (xs[i]?).map fun x=>Value.int .u8 ((x:Nat):Int):=by simp [bytesA]
theorem bytesA_set (xs:List Nat) (i x:Nat):(bytesA xs).setIfInBounds i (.int .u8 ((x:Nat):Int))=bytesA (xs.set i x):=by simp [bytesA,List.map_set]
def addT (f:Nat):List Nat→List Nat→List Nat
  | x :: xs,y :: ys=>(x ^^^ mul y f) :: addT f xs ys
  | xs,_=>xs
theorem addT_nil (f:Nat) (xs:List Nat):addT f xs []=xs:=by cases xs <;> rfl
theorem addT_length (f:Nat):∀ xs ys:List Nat,(addT f xs ys).length=xs.length
  | [],_=>by simp [addT]
  | _ :: _,[]=>by simp [addT]
  | x :: xs,y :: ys=>by simp [addT,addT_length f xs ys]
theorem addT_zero:∀ xs ys:List Nat,addT 0 xs ys=xs
  | [],_=>rfl
  | _ :: _,[]=>rfl
  | x :: xs,y :: ys=>by simp [addT,addT_zero xs ys,mul_zero]
theorem addT_get (f:Nat):∀ (xs ys:List Nat) (i:Nat),ys.length≤i→(addT f xs ys)[i]? = xs[i]?
  | [],_,_,_=>by simp [addT]
  | _ :: _,[],_,_=>by simp [addT]
  | x :: xs,y :: ys,0,h=>by simp at h
  | x :: xs,y :: ys,i+1,h=>by simp [addT,addT_get f xs ys i (by simpa using h)]
theorem addT_step (f:Nat):∀ (xs ys:List Nat) (m x y:Nat),xs[m]? = some x→ys[m]? = some y→(addT f xs (ys.take m)).set m (x ^^^ mul y f)=addT f xs (ys.take (m+1))
  | [],_,_,_,_,h,_=>by simp at h
  | _ :: _,[],_,_,_,_,h=>by simp at h
  | a :: xs,b :: ys,0,x,y,h1,h2=>by
    simp at h1 h2
    subst h1;subst h2
    simp [addT,addT_nil]
  | a :: xs,b :: ys,m+1,x,y,h1,h2=>by
    simp [addT]
    simpa using addT_step f xs ys m x y (by simpa using h1) (by simpa using h2)
theorem addT_lt (f:Nat) (hf:f < 256):∀ xs ys:List Nat,(∀ x∈xs,x < 256)→(∀ y∈ys,y < 256)→∀ z∈addT f xs ys,z < 256
  | [],_,_,_=>by simp [addT]
  | _ :: _,[],h,_=>by simpa [addT] using h
  | x :: xs,y :: ys,h1,h2=>by
    intro z hz
    simp only [addT,List.mem_cons] at hz
    rcases hz with rfl | hz
    · exact xor_lt (h1 x (by simp)) (mul_lt (h2 y (by simp)))
    · exact addT_lt f hf xs ys (fun a ha=>h1 a (by simp [ha])) (fun a ha=>h2 a (by simp [ha])) z hz
theorem upon_k {o:Oper} {a:Act} {X:Act→World→Prop} {r:Result Next} (h:∀ K:Act→World→Prop,(∀ a' w',X a' w' → K a' w')→uponK o a K r):uponK o a X r:=h X fun _ _ x=>x
section
variable [Payload] [OldG] {main:Bool} {Wg C n B:Nat} {Cl:Nat→Prop}
structure AF (Wg C n B:Nat) (Cl:Nat→Prop) (w0:World) (bl:Nat) (cur:List Nat) (bo oo:Nat) (ys:List Nat) (w:World):Prop where
  bs:Bs C B w
  ex:Ex Wg C n B Cl (· = bl) w0 w
  ml:Mine w bl
  neC:bl≠C
  hB:B≤bl
  rdo:Rdb Wg C B w bo
  lto:bo < w.heap.size
  neo:bo≠bl
  hx:w.heap[bl]? = some (.cells (bytesA cur) 5)
  hy:∀ i y,ys[i]? = some y→w.cell? ⟨bo,oo+i,none⟩=some (.int .u8 ((y:Nat):Int))
section
variable {w0 w w₁:World} {bl bo oo:Nat} {cur ys:List Nat}
theorem AF.call (h:AF Wg C n B Cl w0 bl cur bo oo ys w) (hb:Bs C B w₁) (r:Ex Wg C n B Cl (fun _=>False) w w₁):AF Wg C n B Cl w0 bl cur bo oo ys w₁:=
  ⟨hb,h.ex.trans (r.weaken fun _=>False.elim),r.own _ h.ml,h.neC,h.hB,r.rdb h.rdo,Nat.lt_of_lt_of_le h.lto r.size,h.neo,(r.mine _ h.ml id).trans h.hx,fun i y e=>by
    rw [← h.hy i y e];simp only [World.cell?,r.stands h.rdo id]⟩
theorem AF.rely (h:AF Wg C n B Cl w0 bl cur bo oo ys w) (r:Ro Wg C n B Cl w w₁):AF Wg C n B Cl w0 bl cur bo oo ys w₁:=h.call (h.bs.rely r) r.ex
theorem AF.set (h:AF Wg C n B Cl w0 bl cur bo oo ys w) (i x:Nat):AF Wg C n B Cl w0 bl (cur.set i x) bo oo ys (w.setCell ⟨bl,i,none⟩ (.int .u8 ((x:Nat):Int))):=
  ⟨h.bs.set _ _,h.ex.trans (Ex.set h.neC rfl (fun hh=>by have:=h.hB;dsimp only at hh;omega)),mine_grow (w:=w) (w':=w.setCell _ _) rfl (by rw [sz_set];omega) h.ml,h.neC,h.hB,
    h.rdo.imp (fun x=>mine_grow (w:=w) (w':=w.setCell _ _) rfl (by rw [sz_set];omega) x) id,by rw [sz_set];exact h.lto,h.neo,by rw [heap_set w h.hx,bytesA_set],fun i y e=>by
    rw [World.cell?_setCell_other _ _ _ _ (by intro e;injection e with e1;exact h.neo e1.symm)];exact h.hy i y e⟩
end
structure AG (Wg C n B:Nat) (Cl:Nat→Prop) (w0:World) (bl:Nat) (cur:List Nat) (bo oo:Nat) (ys:List Nat) (N6:Nat) (T:Array Value) (w:World):Prop where
  af:AF Wg C n B Cl w0 bl cur bo oo ys w
  m6:Mine w N6
  n6:N6≠bl
  h6:w.heap[N6]? = some (.cells T 218)
section
variable {w0 w w₁:World} {bl bo oo N6:Nat} {T:Array Value} {cur ys:List Nat}
theorem AG.rely (h:AG Wg C n B Cl w0 bl cur bo oo ys N6 T w) (r:Ro Wg C n B Cl w w₁):AG Wg C n B Cl w0 bl cur bo oo ys N6 T w₁:=⟨h.af.rely r,(r.mineAt _).2 h.m6,h.n6,(r.mine _ h.m6).trans h.h6⟩
theorem AG.draw (h:AG Wg C n B Cl w0 bl cur bo oo ys N6 T w) (d:Nat):AG Wg C n B Cl w0 bl cur bo oo ys N6 T { w with drawn:=d }:=
  ⟨⟨⟨h.af.bs.tg,h.af.bs.hC,h.af.bs.hB,h.af.bs.ow⟩,⟨h.af.ex.size,h.af.ex.tape,h.af.ex.os,h.af.ex.tag,h.af.ex.own,h.af.ex.mine,h.af.ex.low,h.af.ex.cell,h.af.ex.pay⟩,h.af.ml,h.af.neC,h.af.hB,h.af.rdo,h.af.lto,h.af.neo,h.af.hx,h.af.hy⟩,h.m6,h.n6,h.h6⟩
theorem AG.tab {f:Nat} (hT:ptab f 256=T) (h:AG Wg C n B Cl w0 bl cur bo oo ys N6 T w) {x:Nat} (hx:x < 256):w.cell? ⟨N6,x,none⟩=some (.int .u8 ((mul x f:Nat):Int)):=by
  rw [cell_of _ h.h6,← hT,ptab_get _ _ _ hx,if_pos hx]
theorem AG.at (h:AG Wg C n B Cl w0 bl cur bo oo ys N6 T w) {i x:Nat} (hx:cur[i]? = some x):w.cell? ⟨bl,i,none⟩=some (.int .u8 ((x:Nat):Int)):=by
  rw [cell_of _ h.af.hx,bytesA_get,hx];rfl
theorem AG.set (h:AG Wg C n B Cl w0 bl cur bo oo ys N6 T w) (i x:Nat):AG Wg C n B Cl w0 bl (cur.set i x) bo oo ys N6 T (w.setCell ⟨bl,i,none⟩ (.int .u8 ((x:Nat):Int))):=
  ⟨h.af.set i x,mine_grow (w:=w) (w':=w.setCell _ _) rfl (by rw [sz_set];omega) h.m6,h.n6,(Below.heap_setCell _ _ _ _ h.n6).trans h.h6⟩
theorem AF.alloc (h:AF Wg C n B Cl w0 bl cur bo oo ys w) (T:Array Value):AG Wg C n B Cl w0 bl cur bo oo ys w.heap.size T (w.alloc (.cells T 218)):=
  ⟨h.call (h.bs.alloc _) (Ex.alloc h.bs.hC h.bs.hB (fun _ x=>h.bs.lt x) _),mine_fresh (w:=w) (w':=w.alloc _) rfl h.bs.tg (Nat.le_refl _) (by rw [sz_alloc];omega),by have:=h.bs.lt h.ml;omega,heap_new w _⟩
theorem AG.row {T':Array Value} (h:AG Wg C n B Cl w0 bl cur bo oo ys N6 T' w) (hneo:bo≠N6) (h0:Bs C B w0) (hN:w0.heap.size≤N6) (T:Array Value):AG Wg C n B Cl w0 bl cur bo oo ys N6 T (w.setRow N6 T):=
  ⟨⟨h.af.bs.row _ _,ex_row h.af.ex h0 hN _,mine_grow (w:=w) (w':=w.setRow _ _) rfl (by rw [sz_row];omega) h.af.ml,h.af.neC,h.af.hB,h.af.rdo.imp (fun x=>mine_grow (w:=w) (w':=w.setRow _ _) rfl (by rw [sz_row];omega) x) id,
    by rw [sz_row];exact h.af.lto,h.af.neo,(heap_row_other w _ (Ne.symm h.n6)).trans h.af.hx,fun i y e=>by rw [cell_row_other w _ (by exact hneo)];exact h.af.hy i y e⟩,
    mine_grow (w:=w) (w':=w.setRow _ _) rfl (by rw [sz_row];omega) h.m6,h.n6,heap_row _ h.h6⟩
end
def LenIs (ys:List Nat) (k:Nat):Prop:=ys.length=k
def AI (Wg C n B:Nat) (Cl:Nat→Prop) (w0:World) (bl nl cl:Nat) (xs:List Nat) (bs:Option Addr) (bo oo co:Nat) (ys:List Nat) (N6:Nat) (T:Array Value) (f k:Nat) (a:Act) (w:World):Prop:=
  ∃ (m:Nat) (v3 v4 v5 v7 v8 v9 v10 v11 v12 v16 v17 v18 v19 v20 v21 v22 v23 v24 v25 v26 v27 v28 v29:Value),m≤k∧AG Wg C n B Cl w0 bl (addT f xs (ys.take m)) bo oo ys N6 T w∧a = { tmps:=#[.slice (some ⟨bl,0,none⟩) nl cl,.int .u8 (f:Int),.slice bs k co,v3,v4,v5,.pointer (some ⟨N6,0,none⟩),v7,v8,v9,v10,v11,v12,.slice bs k co,.int .i64 ((k:Nat):Int),.int .i64 ((m:Nat):Int),v16,v17,v18,v19,v20,v21,v22,v23,v24,v25,v26,v27,v28,v29],defers:=[] }
def muA (k:Nat) (a:Act) (_:World):Nat:=match a.tmps.getD 15 undef with | .int _ j=>k - j.toNat | _=>0
set_option maxRecDepth 100000 in
set_option maxHeartbeats 2000000 in
theorem addTimes_c (k:Nat):∃ q,∀ (w:World) (bs:Option Addr) (bl nl cl bo oo co f:Nat) (xs ys:List Nat),(0 < k→bs=some ⟨bo,oo,none⟩)→f < 256→(∀ x∈xs,x < 256)→(∀ y∈ys,y < 256)→LenIs xs nl→k≤nl→LenIs ys k→nl≤maxLen→AF Wg C n B Cl w bl xs bo oo ys w →
    CallsC Tryz.prog main (Ro Wg C n B Cl) (Dg Wg C n B Cl) 101 #[.slice (some ⟨bl,0,none⟩) nl cl,.int .u8 (f:Int),   .slice bs k co] q w fun v w'=>v = .tuple #[]∧AF Wg C n B Cl w bl (addT f xs ys) bo oo ys w':=by
  obtain ⟨kp,hp⟩:=products_c (main:=main) (Wg:=Wg) (C:=C) (n:=n) (B:=B) (Cl:=Cl)
  co_apply Exists.intro
  intro w bs bl nl cl bo oo co f xs ys hbs hf hxs hys hnl hle hk hmax hF
  have hbw:=hF.bs
  co_apply callsC_of_wpC Tryz.func101 (by rfl) rfl
  simp only [Tryz.ntmps101,List.size_toArray,List.length_cons,List.length_nil,Nat.reduceAdd,Nat.reduceSub,Array.replicate_succ,Array.replicate_zero,List.push_toArray,List.append_toArray,List.nil_append,List.cons_append]
  co_apply wpC_seq termsG
  co_apply wpC_seq termsG
  co_reg termsG
  co_op AF.rely hF (co_quiet termsG)
  co_op AF.rely hF (co_quiet termsG)
  co_apply opsC_nil termsG
  co_then
  co_split termsG ((f:Int) == 0)
  · intro h0
    obtain rfl : f = 0 := by have:(f:Int)=0:=by simpa using h0
                             omega
    co_apply wpC_ret termsG
    exact ⟨rfl,_,resultsC_none (by rfl) _,rfl,by rw [addT_zero];exact hF⟩
  · intro h0
    clear h0
    co_ctl termsG
    co_then
    co_apply wpC_seq termsG
    co_reg termsG
    co_op AF.rely hF (co_quiet termsG)
    co_apply opsC_callG termsG rfl (by rfl) rfl
    · walk_nrm
      exact hp _ _ hf hF.bs
    rintro v w' ⟨rfl,hb',hex⟩
    replace hF:=hF.call hb' hex
    clear hb' hex
    obtain ⟨T,hT,hTs,hT1⟩:∃ T,ptab f 256=T∧T.size=256∧∀ v∈T,v.oneCell' = true:=⟨_,rfl,ptab_size f _,ptab_one f _⟩
    simp only [hT]
    walk_nrm
    co_opw AF.rely hF (skip) (rw [listed_nil (by simp [go_sem])];exact dg_alloc hF.bs.hC _ rfl)
    have hlo:=hF.ex.size
    have hlt:=hF.lto
    replace hF:=hF.alloc Tryz.zeroCells218
    generalize hN6:Array.size (World.heap _)=N6 at hF hlo hlt ⊢
    clear hN6
    co_apply opsC_cons rfl (by rfl)
    intro w₁ r
    replace hF:=hF.rely r
    clear r
    have hz:Tryz.zeroCells218.size=256:=by rw [ptab_zero f];exact ptab_size f 0
    have hrun:=run_store256 (c':=T) hF.h6 hz hTs hT1
    rw [run_op_store (v:=.agg T) rfl rfl rfl hrun]
    simp only [uponK_skip]
    have hn6C:N6≠C:=by have:=hbw.hC;omega
    refine ⟨?_,?_⟩
    · unfold listed
      rw [ev_op_store (v:=.agg T) rfl rfl rfl]
      exact dg_row hF.m6 hn6C (hF.af.bs.lt hF.m6) (fun e he=>ev_store256 (c':=T) hF.h6 hz hTs hT1 e (mem_seen he))
    clear hrun
    replace hF:=hF.row (by omega) hbw hlo T
    walk_nrm
    co_apply opsC_nil termsG
    co_then
    co_apply wpC_seq termsG
    co_reg termsG
    co_op AG.rely hF (co_quiet termsG)
    co_op AG.rely hF (co_quiet termsG)
    co_op AG.rely hF (co_quiet termsG)
    co_apply opsC_nil termsG
    co_then
    co_apply wpC_block termsG
    co_apply wpC_loop termsG (AI Wg C n B Cl w bl nl cl xs bs bo oo co ys N6 T f k) (muA k) _ k
    · exact ⟨0,_,_,_,_,_,_,_,_,_,_,_,_,_,_,_,_,_,_,_,_,_,_,_,Nat.zero_le _,by rw [List.take_zero,addT_nil];exact hF,rfl⟩
    · simp [muA]
    rintro a w' ⟨m,v3,v4,v5,v7,v8,v9,v10,v11,v12,v16,v17,v18,v19,v20,v21,v22,v23,v24,v25,v26,v27,v28,v29,hm,hF,rfl⟩
    co_apply wpC_seq termsG
    co_reg termsG
    co_op AG.rely hF (co_quiet termsG)
    co_apply opsC_nil termsG
    co_then
    co_apply wpC_seq termsG
    co_split termsG (decide ((m:Int) < (k:Int)))
    · intro hml
      have hml':m < k:=by have:=of_decide_eq_true hml;omega
      clear hml
      obtain rfl:bs=some ⟨bo,oo,none⟩:=hbs (by omega)
      obtain ⟨y,hy⟩:∃ y,ys[m]? = some y:=⟨ys[m]'(by rw [show ys.length=k from hk];exact hml'),by simp⟩
      obtain ⟨x,hx⟩:∃ x,xs[m]? = some x:=⟨xs[m]'(by rw [show xs.length=nl from hnl];omega),by simp⟩
      have hy256:y < 256:=hys y (List.mem_of_getElem? hy)
      have hx256:x < 256:=hxs x (List.mem_of_getElem? hx)
      have hcx:(addT f xs (ys.take m))[m]? = some x:=by rw [addT_get f xs _ m (by simp;omega)];exact hx
      have hmI:(m:Int) < (k:Int):=by omega
      have hmN:(m:Int) < (nl:Int):=by omega
      have hyI:(y:Int) < 256:=by omega
      have hmul:mul y f < 256:=mul_lt hy256
      co_ctl termsG
      co_then
      co_apply wpC_seq termsG
      co_apply wpC_block termsG
      co_apply wpC_seq termsG
      co_reg termsG
      co_op AG.rely hF (co_quiet termsG)
      co_opw AG.rely hF (skip) (co_still termsG)
      co_opw AG.rely hF (have hc:=hF.af.hy m y hy) (refine dg_read hF.af.rdo hF.af.lto ?_;co_evs (exact ⟨_,rfl,rfl⟩))
      clear hc
      co_op AG.rely hF (co_quiet termsG)
      co_op AG.rely hF (co_quiet termsG)
      co_apply opsC_nil termsG
      co_then
      co_apply wpC_region_any (nf:=0) (S:=AG Wg C n B Cl w bl (addT f xs (ys.take m)) bo oo ys N6 T) (lst:=9) termsG drawG (by first | kernel_rfl | rfl)
      intro w₁ r
      replace hF:=(hF.rely r).draw (w₁.drawn+1)
      clear r
      simp only [List.size_toArray,List.length_cons,List.length_nil,Nat.reduceAdd,Nat.zero_add]
      have hix:∀ (w:World) (es:Array Event),(Instr.indexAt 218 (.pointer (some ⟨N6,0,none⟩)) (.int .u8 (y:Int))).events Tryz.prog w es=es:=fun w es=>events_indexAt_array _ _ _ _ _ _ Tryz.underlying218 ⟨by omega,by omega⟩
      co_applyP anyX_take termsG (fun _ _ h r=>AG.rely h r) (fun _ _ _ h r=>wpC_rely termsG h r) (i:=0) rfl (by kernel_rfl) (by kernel_rfl) (by kernel_rfl) (by kernel_rfl) (by kernel_rfl) (.inl ⟨by rfl,fun _ hw=>⟨run_eq_of ?run0,?guar0⟩⟩) hF ?rest0
      case run0=>
        intro K hK
        skip
        go_simp
        exact hK
      case guar0=>
        skip
        co_quiet termsG
      try walk_nrm
      co_applyP anyX_take termsG (fun _ _ h r=>AG.rely h r) (fun _ _ _ h r=>wpC_rely termsG h r) (i:=1) rfl (by kernel_rfl) (by kernel_rfl) (by kernel_rfl) (by kernel_rfl) (by kernel_rfl) (.inl ⟨by rfl,fun _ hw=>⟨run_eq_of ?run1,?guar1⟩⟩) hF ?rest1
      case run1=>
        intro K hK
        skip
        go_simp
        exact hK
      case guar1=>
        skip
        co_quiet termsG
      try walk_nrm
      co_applyP anyX_take termsG (fun _ _ h r=>AG.rely h r) (fun _ _ _ h r=>wpC_rely termsG h r) (i:=2) rfl (by kernel_rfl) (by kernel_rfl) (by kernel_rfl) (by kernel_rfl) (by kernel_rfl) (.inl ⟨by rfl,fun _ hw=>⟨run_eq_of ?run2,?guar2⟩⟩) hF ?rest2
      case run2=>
        intro K hK
        skip
        go_simp
        exact hK
      case guar2=>
        skip
        co_still termsG
      try walk_nrm
      co_applyP anyX_take termsG (fun _ _ h r=>AG.rely h r) (fun _ _ _ h r=>wpC_rely termsG h r) (i:=3) rfl (by kernel_rfl) (by kernel_rfl) (by kernel_rfl) (by kernel_rfl) (by kernel_rfl) (.inl ⟨by rfl,fun _ hw=>⟨run_eq_of ?run3,?guar3⟩⟩) hF ?rest3
      case run3=>
        intro K hK
        have hc:=hw.at hcx
        go_simp
        exact hK
      case guar3=>
        have hc:=hw.at hcx
        refine dg_read (.inl hw.af.ml) (hw.af.bs.lt hw.af.ml) ?_;co_evs (exact ⟨_,rfl,rfl⟩)
      try walk_nrm
      co_applyP anyX_take termsG (fun _ _ h r=>AG.rely h r) (fun _ _ _ h r=>wpC_rely termsG h r) (i:=4) rfl (by kernel_rfl) (by kernel_rfl) (by kernel_rfl) (by kernel_rfl) (by kernel_rfl) (.inl ⟨by rfl,fun _ hw=>⟨run_eq_of ?run4,?guar4⟩⟩) hF ?rest4
      case run4=>
        intro K hK
        skip
        go_simp
        exact hK
      case guar4=>
        skip
        co_quiet termsG
      try walk_nrm
      co_applyP anyX_take termsG (fun _ _ h r=>AG.rely h r) (fun _ _ _ h r=>wpC_rely termsG h r) (i:=5) rfl (by kernel_rfl) (by kernel_rfl) (by kernel_rfl) (by kernel_rfl) (by kernel_rfl) (.inl ⟨by rfl,fun _ hw=>⟨run_eq_of ?run5,?guar5⟩⟩) hF ?rest5
      case run5=>
        intro K hK
        skip
        go_simp
        exact hK
      case guar5=>
        skip
        co_still termsG
      try walk_nrm
      co_applyP anyX_take termsG (fun _ _ h r=>AG.rely h r) (fun _ _ _ h r=>wpC_rely termsG h r) (i:=6) rfl (by kernel_rfl) (by kernel_rfl) (by kernel_rfl) (by kernel_rfl) (by kernel_rfl) (.inl ⟨by rfl,fun _ hw=>⟨run_eq_of ?run6,?guar6⟩⟩) hF ?rest6
      case run6=>
        intro K hK
        have hc:=hw.tab hT hy256
        go_simp
        exact hK
      case guar6=>
        have hc:=hw.tab hT hy256
        refine dg_read (.inl hw.m6) (hw.af.bs.lt hw.m6) ?_;co_evs (exact ⟨_,rfl,rfl⟩)
      try walk_nrm
      co_applyP anyX_take termsG (fun _ _ h r=>AG.rely h r) (fun _ _ _ h r=>wpC_rely termsG h r) (i:=7) rfl (by kernel_rfl) (by kernel_rfl) (by kernel_rfl) (by kernel_rfl) (by kernel_rfl) (.inl ⟨by rfl,fun _ hw=>⟨run_eq_of ?run7,?guar7⟩⟩) hF ?rest7
      case run7=>
        intro K hK
        skip
        go_simp
        exact hK
      case guar7=>
        skip
        co_quiet termsG
      try walk_nrm
      co_applyP anyX_take termsG (fun _ _ h r=>AG.rely h r) (fun _ _ _ h r=>wpC_rely termsG h r) (i:=8) rfl (by kernel_rfl) (by kernel_rfl) (by kernel_rfl) (by kernel_rfl) (by kernel_rfl) (.inl ⟨by rfl,fun _ hw=>⟨run_eq_of ?run8,?guar8⟩⟩) hF ?rest8
      case run8=>
        intro K hK
        skip
        go_simp
        exact hK
      case guar8=>
        skip
        co_still termsG
      try walk_nrm
      co_applyP anyX_one (i:=9) (by kernel_rfl)
      refine ⟨_,rfl,.inl ⟨by rfl,?_⟩⟩
      intro w₂ r
      replace hF:=hF.rely r
      clear r
      refine upon_k ?_
      intro K hK
      have hc:=hF.at hcx
      have hz:=thaw_of _ hF.af.hx m
      go_simp
      try (unfold stored;go_simp)
      refine hK _ _ ⟨?_,fun h=>absurd rfl h,?_⟩
      · refine dg_set hF.af.ml hF.af.neC (hF.af.bs.lt hF.af.ml) ?_
        co_evs (exact ⟨_,_,rfl,rfl⟩)
      clear hK K hc hz
      replace hF:=hF.set m (x ^^^ mul y f)
      rw [addT_step f xs ys m x y hx hy,← u8_xor_nat _ _ hx256 hmul] at hF
      refine anyX_done (by kernel_rfl) ?_ _
      co_then
      co_reg termsG
      co_op AG.rely hF (co_quiet termsG)
      co_op AG.rely hF (co_quiet termsG)
      co_apply opsC_nil termsG
      co_then
      have hw1:IntKind.i64.wrap ((m:Int)+1)=((m+1:Nat):Int):=by
        have:nl≤9223372036854775807:=by simpa [maxLen] using hmax
        rw [IntKind.wrap_i64];omega
      simp only [hw1]
      refine ⟨⟨m+1,_,_,_,_,_,_,_,_,_,_,_,_,_,_,_,_,_,_,_,_,_,_,_,by omega,hF,rfl⟩,?_⟩
      simp [muA]
      omega
    · intro hml
      have hmk:m=k:=by have:=of_decide_eq_false hml;omega
      have hall:ys.take m=ys:=List.take_of_length_le (by rw [show ys.length=k from hk];omega)
      co_ctl termsG
      co_then
      exact ⟨rfl,_,resultsC_none (by rfl) _,rfl,by rw [hall] at hF;exact hF.af⟩
end
structure Col where
  bs:Option Addr
  bo:Nat
  oo:Nat
  co:Nat
  ys:List Nat
def comb:List (Nat×List Nat)→List Nat→List Nat
  | [],cur=>cur
  | z :: zs,cur=>comb zs (addT z.1 cur z.2)
theorem comb_length:∀ (zs:List (Nat×List Nat)) (cur:List Nat),(comb zs cur).length=cur.length
  | [],_=>rfl
  | z :: zs,cur=>by rw [comb,comb_length zs,addT_length]
theorem comb_snoc:∀ (zs:List (Nat×List Nat)) (cur:List Nat) (z:Nat×List Nat),comb (zs++[z]) cur=addT z.1 (comb zs cur) z.2
  | [],_,_=>rfl
  | y :: zs,cur,z=>by rw [List.cons_append,comb,comb_snoc zs,comb]
theorem comb_lt:∀ (zs:List (Nat×List Nat)) (cur:List Nat),(∀ z∈zs,z.1 < 256∧∀ y∈z.2,y < 256)→(∀ x∈cur,x < 256)→∀ x∈comb zs cur,x < 256
  | [],_,_,h=>h
  | z :: zs,cur,h1,h2=>comb_lt zs _ (fun y hy=>h1 y (by simp [hy])) (addT_lt z.1 (h1 z (by simp)).1 cur z.2 h2 (h1 z (by simp)).2)
theorem made_zero (L:Nat):madeCells #[.int .u8 0] L=bytesA (List.replicate L 0):=by
  apply Array.ext_getElem?
  intro i
  rw [bytesA_get]
  by_cases h:i < L
  · simp [madeCells,h,Nat.mod_one]
  · simp [madeCells,h]
section
variable [Payload] [OldG] {main:Bool} {Wg C n B:Nat} {Cl:Nat→Prop}
structure CIn (Wg C B:Nat) (bw ow bc oc L:Nat) (ws:List Nat) (cs:List Col) (w:World):Prop where
  rw:Rdb Wg C B w bw
  lw:bw < w.heap.size
  rc:Rdb Wg C B w bc
  lc:bc < w.heap.size
  hw:∀ j x,ws[j]? = some x→w.cell? ⟨bw,ow+j,none⟩=some (.int .u8 ((x:Nat):Int))
  hc:∀ j c,cs[j]? = some c→w.cell? ⟨bc,oc+j,none⟩=some (.slice c.bs L c.co)
  hcol:∀ c∈cs,Rdb Wg C B w c.bo∧c.bo < w.heap.size∧(0 < L→c.bs=some ⟨c.bo,c.oo,none⟩)∧∀ i y,c.ys[i]? = some y→w.cell? ⟨c.bo,c.oo+i,none⟩=some (.int .u8 ((y:Nat):Int))
theorem CIn.ex {w w₁:World} {bw ow bc oc L:Nat} {ws:List Nat} {cs:List Col} (h:CIn Wg C B bw ow bc oc L ws cs w) (r:Ex Wg C n B Cl (fun _=>False) w w₁):CIn Wg C B bw ow bc oc L ws cs w₁:=by
  have st:∀ {b:Nat},Rdb Wg C B w b→∀ o,w₁.cell? ⟨b,o,none⟩=w.cell? ⟨b,o,none⟩:=fun hb o=>by simp only [World.cell?,r.stands hb id]
  exact ⟨r.rdb h.rw,Nat.lt_of_lt_of_le h.lw r.size,r.rdb h.rc,Nat.lt_of_lt_of_le h.lc r.size,fun j x e=>(st h.rw _).trans (h.hw j x e),fun j c e=>(st h.rc _).trans (h.hc j c e),
    fun c hc=>let ⟨h1,h2,h3,h4⟩:=h.hcol c hc;⟨r.rdb h1,Nat.lt_of_lt_of_le h2 r.size,h3,fun i y e=>(st h1 _).trans (h4 i y e)⟩⟩
structure CF (Wg C n B:Nat) (Cl:Nat→Prop) (w0 w:World):Prop where
  bs:Bs C B w
  ex:Ex Wg C n B Cl (fun _=>False) w0 w
omit [OldG] in
theorem CF.rely {w0 w w₁:World} (h:CF Wg C n B Cl w0 w) (r:Ro Wg C n B Cl w w₁):CF Wg C n B Cl w0 w₁:=⟨h.bs.rely r,h.ex.rely r⟩
structure CG (Wg C n B:Nat) (Cl:Nat→Prop) (w0:World) (N:Nat) (cur:List Nat) (w:World):Prop where
  bs:Bs C B w
  ex:Ex Wg C n B Cl (fun _=>False) w0 w
  lo:w0.heap.size≤N
  mn:Mine w N
  hx:w.heap[N]? = some (.cells (bytesA cur) 5)
omit [OldG] in
theorem CG.rely {w0 w w₁:World} {N:Nat} {cur:List Nat} (h:CG Wg C n B Cl w0 N cur w) (r:Ro Wg C n B Cl w w₁):CG Wg C n B Cl w0 N cur w₁:=⟨h.bs.rely r,h.ex.rely r,h.lo,(r.mineAt _).2 h.mn,(r.mine _ h.mn).trans h.hx⟩
omit [OldG] in
theorem CF.alloc {w0 w:World} (h:CF Wg C n B Cl w0 w) (L:Nat):CG Wg C n B Cl w0 w.heap.size (List.replicate L 0) (w.alloc (.cells (madeCells #[.int .u8 0] L) 5)):=
  ⟨h.bs.alloc _,ex_alloc h.ex h.bs _,h.ex.size,mine_fresh (w:=w) (w':=w.alloc _) rfl h.bs.tg (Nat.le_refl _) (by rw [sz_alloc];omega),by rw [heap_new,made_zero]⟩
omit [OldG] in
theorem CG.back {w0 w w₁:World} (h0:Bs C B w0) {N:Nat} {cur:List Nat} (h:CG Wg C n B Cl w0 N cur w) (r:Ex Wg C n B Cl (· = N) w w₁):Ex Wg C n B Cl (fun _=>False) w0 w₁:=
  ⟨Nat.le_trans h.ex.size r.size,r.tape.trans h.ex.tape,r.os.trans h.ex.os,r.tag ∘ h.ex.tag,fun b x=>r.own b (h.ex.own b x),fun b x y=>(r.mine b (h.ex.own b x) (fun e=>by have:=h0.lt x;have:=h.lo;omega)).trans (h.ex.mine b x y),
    fun b x y z=>(r.low b x y z).trans (h.ex.low b x y z),fun i x=>(r.cell i x).trans (h.ex.cell i x),r.pay ∘ h.ex.pay⟩
def zsOf (ws:List Nat) (cs:List Col):List (Nat×List Nat):=ws.zip (cs.map (·.ys))
def CI (Wg C n B:Nat) (Cl:Nat→Prop) (w0:World) (bw ow cw bc oc cc L k N:Nat) (ws:List Nat) (cs:List Col) (a:Act) (w:World):Prop:=
  ∃ (j:Nat) (v2 v3 v4 v6 v7 v8 v9 v10 v11 v12 v16 v17 v18 v19 v20 v21 v22 v23 v24 v25 v26 v27 v28:Value),j≤k∧CG Wg C n B Cl w0 N (comb ((zsOf ws cs).take j) (List.replicate L 0)) w∧a = { tmps:=#[.slice (some ⟨bw,ow,none⟩) k cw,.slice (some ⟨bc,oc,none⟩) k cc,v2,v3,v4,.slice (some ⟨N,0,none⟩) L L,v6,v7,v8,v9,v10,v11,v12,.slice (some ⟨bc,oc,none⟩) k cc,.int .i64 ((k:Nat):Int),.int .i64 ((j:Nat):Int),v16,v17,v18,v19,v20,v21,v22,v23,v24,v25,v26,v27,v28],defers:=[] }
def muC (k:Nat) (a:Act) (_:World):Nat:=match a.tmps.getD 15 undef with | .int _ j=>k - j.toNat | _=>0
omit [Payload] [OldG] in
theorem info_u8:(Tryz.prog.info? 5).map (fun i=>(i.zero,i.size,i.bytes))=some (some (.int .u8 0),1,1):=by kernel_rfl
set_option maxRecDepth 100000 in
set_option maxHeartbeats 2000000 in
theorem combine_c (k L:Nat) (hk0:0 < k) (hk:k≤128) (hL:L≤140737488355328):∃ q,∀ (w:World) (bw ow cw bc oc cc:Nat) (ws:List Nat) (cs:List Col),LenIs ws k→cs.length=k→(∀ x∈ws,x < 256)→(∀ c∈cs,LenIs c.ys L∧∀ y∈c.ys,y < 256)→Bs C B w→CIn Wg C B bw ow bc oc L ws cs w →
    CallsC Tryz.prog main (Ro Wg C n B Cl) (Dg Wg C n B Cl) 65 #[.slice (some ⟨bw,ow,none⟩) k cw,.slice (some ⟨bc,oc,none⟩) k cc] q w fun v w'=>∃ N,v = .slice (some ⟨N,0,none⟩) L L∧CG Wg C n B Cl w N (comb (zsOf ws cs) (List.replicate L 0)) w':=by
  obtain ⟨qa,ha⟩:=addTimes_c (main:=main) (Wg:=Wg) (C:=C) (n:=n) (B:=B) (Cl:=Cl) L
  obtain ⟨i0,hi,hz0,hz1,hz2⟩:=info_parts info_u8
  have hmk:∀ w:World,(Instr.makeSlice 33 (.int .i64 (L:Int)) (.int .i64 (L:Int))).run Tryz.prog w = .ok (.slice (some ⟨w.heap.size,0,none⟩) L L) (w.alloc (.cells (madeCells #[.int .u8 0] L) 5)):=fun w=>by
    have:=run_make (P:=Tryz.prog) w 33 5 i0 (.int .u8 0) Tryz.underlying33 hi hz0 .i64 .i64 (L:Int) (L:Int) (by omega) (by omega) (by rw [hz2];omega) (by omega)
    rw [hz1,show (Value.int .u8 0).cells = #[.int .u8 0] from rfl] at this
    simpa using this
  have hme:∀ (w:World) (es:Array Event),(Instr.makeSlice 33 (.int .i64 (L:Int)) (.int .i64 (L:Int))).events Tryz.prog w es=es:=fun w es=>
    events_make (P:=Tryz.prog) w 33 5 i0 (.int .u8 0) Tryz.underlying33 hi hz0 .i64 .i64 (L:Int) (L:Int) (by omega) (by omega) (by rw [hz2];omega) (by omega) (by rw [hz2];simp;omega) es
  clear hi hz0 hz1 hz2
  co_apply Exists.intro
  intro w bw ow cw bc oc cc ws cs hlw hlc hws hcs hb hin
  co_apply callsC_of_wpC Tryz.func65 (by rfl) rfl
  simp only [Tryz.ntmps65,List.size_toArray,List.length_cons,List.length_nil,Nat.reduceAdd,Nat.reduceSub,Array.replicate_succ,Array.replicate_zero,List.push_toArray,List.append_toArray,List.nil_append,List.cons_append]
  have hF:CF Wg C n B Cl w w:=⟨hb,.refl w⟩
  have hkI:(0:Int) < (k:Int):=by omega
  obtain ⟨c0,hc0⟩:∃ c,cs[0]? = some c:=⟨cs[0]'(by omega),by simp⟩
  co_apply wpC_seq termsG
  co_reg termsG
  co_op CF.rely hF (co_quiet termsG)
  co_apply opsC_nil termsG
  co_then
  co_apply wpC_seq termsG
  co_reg termsG
  co_op CF.rely hF (co_quiet termsG)
  co_opw CF.rely hF (skip) (co_still termsG)
  co_opw CF.rely hF (have hc:=(hin.ex hF.ex).hc 0 c0 hc0;simp only [Nat.add_zero] at hc) (refine dg_read (hin.ex hF.ex).rc (hin.ex hF.ex).lc ?_;co_evs (exact ⟨_,rfl,rfl⟩))
  clear hc
  co_op CF.rely hF (co_quiet termsG)
  co_opw CF.rely hF (skip) (rw [listed_nil (by simp [go_sem, *])];exact dg_alloc hF.bs.hC _ rfl)
  replace hF:=hF.alloc L
  generalize hN:Array.size (World.heap _)=N at hF ⊢
  clear hN
  co_op CG.rely hF (co_quiet termsG)
  co_apply opsC_nil termsG
  co_then
  co_apply wpC_seq termsG
  co_apply wpC_seq termsG
  co_reg termsG
  co_op CG.rely hF (co_quiet termsG)
  co_op CG.rely hF (co_quiet termsG)
  co_op CG.rely hF (co_quiet termsG)
  co_apply opsC_nil termsG
  co_then
  co_apply wpC_block termsG
  co_apply wpC_loop termsG (CI Wg C n B Cl w bw ow cw bc oc cc L k N ws cs) (muC k) _ k
  · exact ⟨0,_,_,_,_,_,_,_,_,_,_,_,_,_,_,_,_,_,_,_,_,_,_,_,Nat.zero_le _,hF,rfl⟩
  · simp [muC]
  rintro a w' ⟨j,v2,v3,v4,v6,v7,v8,v9,v10,v11,v12,v16,v17,v18,v19,v20,v21,v22,v23,v24,v25,v26,v27,v28,hj,hF,rfl⟩
  co_apply wpC_seq termsG
  co_reg termsG
  co_op CG.rely hF (co_quiet termsG)
  co_apply opsC_nil termsG
  co_then
  co_apply wpC_seq termsG
  co_split termsG (decide ((j:Int) < (k:Int)))
  · intro hjl
    have hjl':j < k:=by have:=of_decide_eq_true hjl;omega
    have hjI:(j:Int) < (k:Int):=by omega
    clear hjl
    obtain ⟨c,hcj⟩:∃ c,cs[j]? = some c:=⟨cs[j]'(by omega),by simp⟩
    obtain ⟨x,hxj⟩:∃ x,ws[j]? = some x:=⟨ws[j]'(by rw [show ws.length=k from hlw];omega),by simp⟩
    have hx256:x < 256:=hws x (List.mem_of_getElem? hxj)
    have hcm:=List.mem_of_getElem? hcj
    obtain ⟨hly,hys⟩:=hcs c hcm
    co_ctl termsG
    co_then
    co_apply wpC_seq termsG
    co_apply wpC_block termsG
    co_apply wpC_seq termsG
    co_reg termsG
    co_op CG.rely hF (co_quiet termsG)
    co_opw CG.rely hF (skip) (co_still termsG)
    co_opw CG.rely hF (have hc:=(hin.ex hF.ex).hc j c hcj) (refine dg_read (hin.ex hF.ex).rc (hin.ex hF.ex).lc ?_;co_evs (exact ⟨_,rfl,rfl⟩))
    clear hc
    co_op CG.rely hF (co_quiet termsG)
    co_op CG.rely hF (co_quiet termsG)
    co_apply opsC_nil termsG
    co_then
    co_reg termsG
    co_op CG.rely hF (co_quiet termsG)
    co_op CG.rely hF (co_quiet termsG)
    co_op CG.rely hF (co_quiet termsG)
    co_opw CG.rely hF (skip) (co_still termsG)
    co_opw CG.rely hF (have hc:=(hin.ex hF.ex).hw j x hxj) (refine dg_read (hin.ex hF.ex).rw (hin.ex hF.ex).lw ?_;co_evs (exact ⟨_,rfl,rfl⟩))
    clear hc
    co_op CG.rely hF (co_quiet termsG)
    have hcol:=(hin.ex hF.ex).hcol c hcm
    have hN1:=hF.lo
    have hN2:=hb.hC
    have hN3:=hb.hB
    have hN4:=(hin.hcol c hcm).2.1
    have hAF:∀ w1,CG Wg C n B Cl w N (comb ((zsOf ws cs).take j) (List.replicate L 0)) w1→AF Wg C n B Cl w1 N (comb ((zsOf ws cs).take j) (List.replicate L 0)) c.bo c.oo c.ys w1:=fun w1 h1=>
      ⟨h1.bs,.refl _,h1.mn,by omega,by omega,((hin.ex h1.ex).hcol c hcm).1,((hin.ex h1.ex).hcol c hcm).2.1,by omega,h1.hx,((hin.ex h1.ex).hcol c hcm).2.2.2⟩
    have hz256:∀ z∈(zsOf ws cs).take j,z.1 < 256∧∀ y∈z.2,y < 256:=by
      intro z hz
      have hz:=List.mem_of_mem_take hz
      have h1:=List.of_mem_zip hz
      refine ⟨hws _ h1.1,?_⟩
      obtain ⟨c',hc',e⟩:=List.mem_map.1 h1.2
      rw [← e]
      exact (hcs c' hc').2
    co_apply opsC_call termsG rfl (by rfl) rfl
    · walk_nrm
      exact ha _ c.bs N L L c.bo c.oo c.co x _ c.ys (hin.hcol c hcm).2.2.1 hx256 (comb_lt _ _ hz256 (by intro x hx;rw [List.mem_replicate] at hx;omega)) hys (by show List.length _=L;rw [comb_length];simp) (Nat.le_refl _) hly (by simp [maxLen];omega) (hAF _ hF)
    rintro v w' ⟨rfl,haf⟩
    have hsn:(zsOf ws cs).take (j+1)=(zsOf ws cs).take j++[(x,c.ys)]:=by
      rw [List.take_add_one]
      congr 1
      simp [zsOf,List.getElem?_zip_eq_some,hxj,hcj]
    replace hF:CG Wg C n B Cl w N (comb ((zsOf ws cs).take (j+1)) (List.replicate L 0)) w':=⟨haf.bs,hF.back hb haf.ex,hF.lo,haf.ml,by rw [hsn,comb_snoc];exact haf.hx⟩
    clear haf hAF
    walk_nrm
    co_apply opsC_nil termsG
    co_then
    co_reg termsG
    co_op CG.rely hF (co_quiet termsG)
    co_op CG.rely hF (co_quiet termsG)
    co_apply opsC_nil termsG
    co_then
    have hw1:IntKind.i64.wrap ((j:Int)+1)=((j+1:Nat):Int):=by rw [IntKind.wrap_i64];omega
    simp only [hw1]
    refine ⟨⟨j+1,_,_,_,_,_,_,_,_,_,_,_,_,_,_,_,_,_,_,_,_,_,_,_,by omega,hF,rfl⟩,?_⟩
    simp [muC]
    omega
  · intro hjl
    have hjk:j=k:=by have:=of_decide_eq_false hjl;omega
    have hall:(zsOf ws cs).take j=zsOf ws cs:=List.take_of_length_le (by simp [zsOf];omega)
    rw [hall] at hF
    co_ctl termsG
    co_then
    co_apply wpC_seq termsG
    co_reg termsG
    co_op CG.rely hF (co_quiet termsG)
    co_op CG.rely hF (co_quiet termsG)
    co_apply opsC_nil termsG
    co_then
    co_apply wpC_ret termsG
    exact ⟨rfl,_,resultsC_tmp (by rfl) _,N,rfl,hF⟩
end
end Go.Proofs.YtkpcmfgeanlcnabGreatDoor
namespace Go.Proofs.YtkpcmfgeanlcnabGreatDoor
abbrev link:Go.Conc.Lib.WgLink:={ add:=62,done:=64,wait:=67,relMerge:=88,disable:=89,enable:=90,inBubble:=91,associate:=92,fatal:=93,uOr:=94,uAdd:=95,raceRead:=96,uLoad:=97,uStore:=98,disassociate:=99,semrelease:=100,acquire:=104,isAssociated:=105,uCas:=106,raceWrite:=107,semacquire:=108,orU64:=123,addU64:=124,loadU64:=125,storeU64:=126,casU64:=129,tWgP:=172,tUP:=161,tAssoc:=174,tWg:=134,tAU:=131,tU64:=74,tUint:=143,tU32:=132,tPU32:=178,tPAU:=213,tPU64:=215,tNoCopy:=127,tANoCopy:=128,tAlign64:=129 }
theorem wgLib:Go.Conc.Lib.WgLib Tryz.prog link:=
  ⟨Tryz.func62,Tryz.func64,Tryz.func67,Tryz.func88,Tryz.func89,Tryz.func90,Tryz.func91,Tryz.func92,Tryz.func93,Tryz.func94,Tryz.func95,Tryz.func96,Tryz.func97,Tryz.func98,Tryz.func99,Tryz.func100,Tryz.func104,Tryz.func105,Tryz.func106,Tryz.func107,Tryz.func108,Tryz.func123,Tryz.func124,Tryz.func125,Tryz.func126,Tryz.func129,Tryz.underlying172,Tryz.runUnderlying172,Tryz.sizeOf172,Tryz.isAgg172,Tryz.zeroValue172,Tryz.underlying161,Tryz.runUnderlying161,Tryz.sizeOf161,Tryz.isAgg161,Tryz.zeroValue161,Tryz.underlying174,Tryz.runUnderlying174,Tryz.sizeOf174,Tryz.isAgg174,Tryz.zeroValue174,Tryz.underlying134,Tryz.runUnderlying134,Tryz.sizeOf134,Tryz.isAgg134,Tryz.zeroValue134,Tryz.underlying131,Tryz.runUnderlying131,Tryz.sizeOf131,Tryz.isAgg131,Tryz.zeroValue131,Tryz.underlying74,Tryz.runUnderlying74,Tryz.sizeOf74,Tryz.isAgg74,Tryz.zeroValue74,Tryz.underlying143,Tryz.runUnderlying143,Tryz.sizeOf143,Tryz.isAgg143,Tryz.zeroValue143,Tryz.underlying132,Tryz.runUnderlying132,Tryz.sizeOf132,Tryz.isAgg132,Tryz.zeroValue132,Tryz.underlying178,Tryz.runUnderlying178,Tryz.sizeOf178,Tryz.isAgg178,Tryz.zeroValue178,Tryz.underlying213,Tryz.runUnderlying213,Tryz.sizeOf213,Tryz.isAgg213,Tryz.zeroValue213,Tryz.underlying215,Tryz.runUnderlying215,Tryz.sizeOf215,Tryz.isAgg215,Tryz.zeroValue215,Tryz.underlying0,Tryz.runUnderlying0,Tryz.sizeOf0,Tryz.isAgg0,Tryz.zeroValue0,Tryz.underlying3,Tryz.runUnderlying3,Tryz.sizeOf3,Tryz.isAgg3,Tryz.zeroValue3,Tryz.underlying4,Tryz.runUnderlying4,Tryz.sizeOf4,Tryz.isAgg4,Tryz.zeroValue4,Tryz.underlying9,Tryz.runUnderlying9,Tryz.sizeOf9,Tryz.isAgg9,Tryz.zeroValue9,Tryz.underlying20,Tryz.runUnderlying20,Tryz.sizeOf20,Tryz.isAgg20,Tryz.zeroValue20,Tryz.underlying21,Tryz.runUnderlying21,Tryz.sizeOf21,Tryz.isAgg21,Tryz.zeroValue21,(by kernel_rfl),(by kernel_rfl)⟩
end Go.Proofs.YtkpcmfgeanlcnabGreatDoor
namespace Go.Proofs.YtkpcmfgeanlcnabGreatDoor
open Go.Conc Go.ConcN Go.RowKit Go.Gh Go.Conc.Lib Go.ConcR.Gen Go.ConcN.Gen
open Go.ConcR (Payload)
theorem anyX_one_k {P:Program} {main:Bool} {R:World→World→Prop} {D:World→World→Array Event→Prop} {fn:FuncId} {ops:Array Oper} {Q:Exit→Act→World→Prop} {S:World→Prop} {nf lst i k:Nat} {l:Array Bool} {a:Act} {w:World} {o:Oper}
    (hr:Region.ready .any ops l=[i]) (ho:ops[i]? = some o) (hw:Region.wanted o (yielded ops a.tmps)=true)
    (h:∀ w₁,R w w₁→∀ K:Act→World→Prop,(∀ a' w',(D w₁ w' (listed P fn a o w₁)∧(i≠lst→S w')∧AnyX P main R D fn ops nf Q S lst k (l.setIfInBounds i true) a' w')→K a' w')→uponK o a K ((execOp a.eval o).run P w₁)):AnyX P main R D fn ops nf Q S lst (k+1) l a w:=
  anyX_one hr ⟨o,ho,.inl ⟨hw,fun w₁ r=>h w₁ r _ fun _ _ x=>x⟩⟩
section
variable [Payload] [OldG] {main:Bool} {Wg C n B:Nat} {Cl:Nat→Prop}
omit [Payload] in
theorem Bs.rdb_lt {w:World} (h:Bs C B w) {b:Nat} (hb:Rdb Wg C B w b):b < w.heap.size:=hb.elim (h.lt ·) fun x=>Nat.lt_of_lt_of_le x.1 h.hB
omit [OldG] in
theorem cell_set {w:World} (hp:PayAt C n w) {i:Nat} (hi:i < n) (v:Value):Has C i v (w.setCell ⟨C,i,none⟩ v):=by
  obtain ⟨arr,h1,h2⟩:=hp
  simp [Has,World.cell?,heap_set w h1,h2,hi]
theorem dg_cell {w:World} (hp:PayAt C n w) (hC:C < w.heap.size) {i:Nat} (hi:Cl i) (v:Value) {es:Array Event} (he:∀ e∈es,∃ wr,e=⟨.cell ⟨C,i,none⟩,wr,false⟩):Dg Wg C n B Cl w (w.setCell ⟨C,i,none⟩ v) es:=by
  obtain ⟨arr,h1,h2⟩:=hp
  refine ⟨by rw [sz_set];omega,rfl,rfl,fun b _ _ hb=>Below.heap_setCell _ _ _ _ hb,fun j hj => ?_,fun _=>⟨_,heap_set w h1 i v,by simpa using h2⟩,fun e he' => ?_⟩
  · simp only [World.cell?,heap_set w h1,h1]
    rw [Array.getElem?_setIfInBounds_ne (fun e:i=j=>hj (e ▸ hi))]
  · obtain ⟨wr,rfl⟩:=he e he'
    exact ⟨_,wr,rfl,by rw [sz_set];exact hC,.inr (.inr (.inl ⟨i,rfl,hi⟩))⟩
def WPr (C L:Nat) (res:Nat→List Nat) (idx:Nat) (v:Value) (w:World):Prop:=∃ N,v = .slice (some ⟨N,0,none⟩) L L∧Mine w N∧N≠C∧w.heap[N]? = some (.cells (bytesA (res idx)) 5)
omit [OldG] in
theorem WPr.rely {w w₁:World} {L idx:Nat} {res:Nat→List Nat} {v:Value} (h:WPr C L res idx v w) (r:Ro Wg C n B Cl w w₁):WPr C L res idx v w₁:=by
  obtain ⟨N,h1,h2,h3,h4⟩:=h
  exact ⟨N,h1,(r.mineAt _).2 h2,h3,(r.mine _ h2).trans h4⟩
structure WD1 (C L:Nat) (res:Nat→List Nat) (idx:Nat) (v:Value) (w:World):Prop where
  wp:WPr C L res idx v w
  has:Has C idx v w
omit [OldG] in
theorem WD1.rely {w w₁:World} {L idx:Nat} {res:Nat→List Nat} {v:Value} (h:WD1 C L res idx v w) (r:Ro Wg C n B (· = idx) w w₁):WD1 C L res idx v w₁:=⟨h.wp.rely r,(r.cell idx rfl).trans h.has⟩
end
end Go.Proofs.YtkpcmfgeanlcnabGreatDoor

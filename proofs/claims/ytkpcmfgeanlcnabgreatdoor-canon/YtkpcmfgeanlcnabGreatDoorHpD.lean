/-
  The program's heap in memory: which of two places has the lesser word; two places changed: run alone.
-/
import Derived.Test.YtkpcmfgeanlcnabGreatDoorHpA
import Derived.Test.YtkpcmfgeanlcnabGreatDoorSame
import Derived.Laws.Rows
import Derived.Laws.OwnMore
import Derived.Deep.AppendLies
import Derived.Lib.OwnKind
import Derived.Deep.Onto
import Derived.BigQuiet
import Derived.BigRegion
import Derived.WalkKit
import Derived.RowKit
import Derived.KernelRfl
import Derived.Maps.AppendAt
import Derived.Deep.RegionLaw
namespace Go.Proofs.YtkpcmfgeanlcnabGreatDoor
open Go.RowKit Go.Deep Go.Hp
def strV (k:List UInt8):Value:=.string ⟨k.toArray⟩
def entC (e:Ent):List Value:=[strV e.k,strV e.k,e.d]
def entL (n:Nat) (f:Nat→Ent):List Value:=(List.range n).flatMap fun i=>entC (f i)
theorem entL_length (n:Nat) (f:Nat→Ent):(entL n f).length=n*3:=by
  induction n with
  | zero=>rfl
  | succ n ih=>
    unfold entL at *
    rw [List.range_succ,List.flatMap_append,List.length_append,ih]
    simp [entC]
    omega
theorem entL_succ (n:Nat) (f:Nat→Ent):entL (n+1) f=entL n f++entC (f n):=by
  unfold entL
  rw [List.range_succ,List.flatMap_append]
  simp
theorem entL_get (n:Nat) (f:Nat→Ent) (i p:Nat) (hi:i < n) (hp:p < 3):(entL n f)[i*3+p]? = (entC (f i))[p]?:=by
  induction n with
  | zero=>omega
  | succ n ih=>
    rw [entL_succ]
    by_cases e:i=n
    · subst e
      rw [List.getElem?_append_right (by rw [entL_length];omega),entL_length,show i*3+p - i*3=p by omega]
    · rw [List.getElem?_append_left (by rw [entL_length];omega),ih (by omega)]
theorem entL_congr {n:Nat} {f g:Nat→Ent} (h:∀ i,i < n→f i=g i):entL n f=entL n g:=by
  induction n with
  | zero=>rfl
  | succ n ih=>rw [entL_succ,entL_succ,ih fun i hi=>h i (by omega),h n (by omega)]
theorem entL_set (n:Nat) (f:Nat→Ent) (i:Nat) (hi:i < n) (e:Ent):(((entL n f).set (i*3) (strV e.k)).set (i*3+1) (strV e.k)).set (i*3+2) e.d=entL n (fun x=>if x=i then e else f x):=by
  apply List.ext_getElem?
  intro m
  by_cases hm:m < n*3
  · have hq:m=m / 3*3+m % 3:=by omega
    have hq3:m % 3 < 3:=by omega
    generalize m / 3=q at hq
    generalize m % 3=p at hq hq3
    subst hq
    rw [entL_get n _ q p (by omega) hq3]
    have hold:=entL_get n f q p (by omega) hq3
    simp only [List.getElem?_set,List.length_set,entL_length]
    by_cases e1:q=i
    · subst e1
      rw [if_pos rfl]
      have:p=0∨p=1∨p=2:=by omega
      rcases this with rfl | rfl | rfl
      · rw [if_neg (by omega),if_neg (by omega),if_pos (by omega),if_pos (by omega)];rfl
      · rw [if_neg (by omega),if_pos (by omega),if_pos (by omega)];rfl
      · rw [if_pos (by omega),if_pos (by omega)];rfl
    · rw [if_neg (by omega),if_neg (by omega),if_neg (by omega),hold,if_neg e1]
  · rw [List.getElem?_eq_none (by simp [entL_length];omega),List.getElem?_eq_none (by rw [entL_length];omega)]
structure Bt (o:Option Nat) (w w':World):Prop where
  os:w'.os=w.os
  tape:w'.tape=w.tape
  output:w'.output=w.output
  size:w.heap.size≤w'.heap.size
  block:∀ b,b < w.heap.size→some b≠o→w'.heap[b]? = w.heap[b]?
theorem Bt.refl (o:Option Nat) (w:World):Bt o w w:=⟨rfl,rfl,rfl,Nat.le_refl _,fun _ _ _=>rfl⟩
theorem Bt.trans {o:Option Nat} {a b c:World} (h:Bt o a b) (k:Bt o b c):Bt o a c:=⟨k.os.trans h.os,k.tape.trans h.tape,k.output.trans h.output,Nat.le_trans h.size k.size,fun x hx hn=>(k.block x (Nat.lt_of_lt_of_le hx h.size) hn).trans (h.block x hx hn)⟩
theorem Bt.drew {o:Option Nat} {a w:World} (h:Bt o a w) (n:Nat):Bt o a (w.drewN n):=⟨h.os,h.tape,h.output,h.size,h.block⟩
theorem Bt.set {o:Option Nat} {a w:World} (h:Bt o a w) {g p:Nat} (hg:o=some g) (v:Value):Bt o a (w.setCell ⟨g,p,none⟩ v):=
  ⟨h.os,h.tape,h.output,by simpa using h.size,fun b hb hn=>(Below.heap_setCell _ _ _ _ (fun e:b=g=>hn (by rw [e,hg]))).trans (h.block b hb hn)⟩
theorem Bt.below {o:Option Nat} {w w':World} {B:Nat} (h:Bt o w w') (hB:B≤w.heap.size) (ho:∀ g,o=some g→B≤g):Below B w w':=
  ⟨h.os,h.tape,h.output,h.size,fun b hb=>h.block b (by omega) (fun e=>by have:=ho b e.symm;omega)⟩
structure HA (B h n:Nat) (f:Nat→Ent) (v:Value) (w:World):Prop where
  var:w.rowIs h 78 1 (fun _=>v)
  own:w.ownsRow B 122 3 v n (entL n f)
  low:h < B
theorem HA.form {B h n:Nat} {f:Nat→Ent} {v:Value} {w:World} (H:HA B h n f v w) (hn:0 < n):∃ g cap,v = .slice (some ⟨g,0,none⟩) n cap∧B≤g∧n≤cap∧cap≤maxLen:=by
  rcases H.own.2 with ⟨_,rfl⟩ | ⟨g,cap,cur,h1,h2,h3,h4,h5,_⟩
  · omega
  · exact ⟨g,cap,h1,h2,h4,h5⟩
theorem HA.at {B h n g cap:Nat} {f:Nat→Ent} {w:World} (H:HA B h n f (.slice (some ⟨g,0,none⟩) n cap) w) (i:Nat) (hi:i < n):w.cell? ⟨g,i*3,none⟩=some (strV (f i).k)∧w.cell? ⟨g,i*3+1,none⟩=some (strV (f i).k)∧w.cell? ⟨g,i*3+2,none⟩=some (f i).d:=by
  have h0:=entL_get n f i 0 hi (by omega)
  have h1:=entL_get n f i 1 hi (by omega)
  have h2:=entL_get n f i 2 hi (by omega)
  exact ⟨by rw [H.own.cellAt (i*3) (by omega)];exact h0,by rw [H.own.cellAt (i*3+1) (by omega)];exact h1,by rw [H.own.cellAt (i*3+2) (by omega)];exact h2⟩
theorem HA.drew {B h n:Nat} {f:Nat→Ent} {v:Value} {w:World} (H:HA B h n f v w) (m:Nat):HA B h n f v (w.drewN m):=⟨H.var,H.own,H.low⟩
def lsr (n:Nat) (f:Nat→Ent) (i j:Nat):Nat:=if j < n∧Hp.lt (f j).k (f i).k=true then j else i
set_option maxHeartbeats 2000000 in
set_option maxRecDepth 100000 in
theorem lesser_any (B h n i j:Nat) (f:Nat→Ent) (v:Value) (w:World) (H:HA B h n f v w) (hij:j < n→i < n) (hj:j < 4611686018427387904) :
    Calls Tryz.prog 87 #[.pointer (some ⟨h,0,none⟩),.int .i64 ((i:Nat):Int),.int .i64 ((j:Nat):Int)] w fun e w'=>e = .returned (.int .i64 ((lsr n f i j:Nat):Int))∧∃ m,w' = w.drewN m:=by
  have a0:=H.var.cell (i:=0) (by omega)
  by_cases hjn:j < n
  · obtain ⟨g,cap,rfl,hg,hnc,hcm⟩:=H.form (by omega)
    have hd:decide ((j:Int) < (n:Int))=true:=by simp;omega
    have hj':(j:Int) < (n:Int):=by omega
    have hi':(i:Int) < (n:Int):=by have:=hij hjn;omega
    have cj:=(H.at j hjn).1
    have ci:=(H.at i (hij hjn)).1
    unfold strV at cj ci
    rcases hq:Hp.lt (f j).k (f i).k with _ | _
    · have hr:lsr n f i j=i:=by unfold lsr;rw [if_neg (fun x=>by rw [hq] at x;exact absurd x.2 (by simp))]
      rw [hr]
      simp only [Hp.lt] at hq
      clear H hij
      go_enter Tryz.func87,Tryz.ntmps87
      go_wp2_with fail
      go_big_quiet (fail)
      go_wp2
      go_ret
      exact ⟨rfl,nq,rfl⟩
    · have hr:lsr n f i j=j:=by unfold lsr;rw [if_pos ⟨hjn,hq⟩]
      rw [hr]
      simp only [Hp.lt] at hq
      clear H hij
      go_enter Tryz.func87,Tryz.ntmps87
      go_wp2_with fail
      go_big_quiet (fail)
      go_wp2
      go_ret
      exact ⟨rfl,nq,rfl⟩
  · have hr:lsr n f i j=i:=by unfold lsr;rw [if_neg (fun x=>hjn x.1)]
    rw [hr]
    have hd:decide ((j:Int) < (n:Int))=false:=by simp;omega
    obtain ⟨bo,cap,rfl⟩:∃ bo cap,v = .slice bo n cap:=by
      rcases H.own.2 with ⟨rfl,rfl⟩ | ⟨g,cap,_,rfl,_⟩ <;> exact ⟨_,_,rfl⟩
    clear H hij
    go_enter Tryz.func87,Tryz.ntmps87
    go_wp2_with fail
    go_big_quiet (fail)
    go_wp2
    go_ret
    exact ⟨rfl,nq,rfl⟩
theorem HA.swap {B h n g cap i j:Nat} {f:Nat→Ent} {w:World} (H:HA B h n f (.slice (some ⟨g,0,none⟩) n cap) w) (hi:i < n) (hj:j < n) (hg:B≤g) :
    HA B h n (swp f i j) (.slice (some ⟨g,0,none⟩) n cap) ((((((w.setCell ⟨g,i*3,none⟩ (strV (f j).k)).setCell ⟨g,i*3+1,none⟩ (strV (f j).k)).setCell ⟨g,i*3+2,none⟩ (f j).d).setCell ⟨g,j*3,none⟩ (strV (f i).k)).setCell ⟨g,j*3+1,none⟩ (strV (f i).k)).setCell ⟨g,j*3+2,none⟩ (f i).d):=by
  have hne:h≠g:=by have:=H.low;omega
  have o:=(((((H.own.stored (i*3) (strV (f j).k)).1.stored (i*3+1) (strV (f j).k)).1.stored (i*3+2) (f j).d).1.stored (j*3) (strV (f i).k)).1.stored (j*3+1) (strV (f i).k)).1.stored (j*3+2) (f i).d
  have o1:=o.1
  rw [entL_set n f i hi (f j),entL_set n _ j hj (f i)] at o1
  refine ⟨(((((H.var.setOther (a:=⟨g,i*3,none⟩) hne _).setOther (a:=⟨g,i*3+1,none⟩) hne _).setOther (a:=⟨g,i*3+2,none⟩) hne _).setOther (a:=⟨g,j*3,none⟩) hne _).setOther (a:=⟨g,j*3+1,none⟩) hne _).setOther (a:=⟨g,j*3+2,none⟩) hne _,?_,H.low⟩
  have e:entL n (fun x=>if x=j then f i else if x=i then f j else f x)=entL n (swp f i j):=entL_congr fun x _=>by
    unfold swp
    by_cases e1:x=i
    · by_cases e2:x=j
      · rw [if_pos e2,if_pos e1,← e1,← e2]
      · rw [if_neg e2,if_pos e1,if_pos e1]
    · rw [if_neg e1,if_neg e1]
  rw [← e]
  exact o1
set_option maxHeartbeats 8000000 in
set_option maxRecDepth 100000 in
theorem swap_any (B h n i j:Nat) (f:Nat→Ent) (v:Value) (w:World) (H:HA B h n f v w) (hi:i < n) (hj:j < n) :
    Calls Tryz.prog 86 #[.pointer (some ⟨h,0,none⟩),.int .i64 ((i:Nat):Int),.int .i64 ((j:Nat):Int)] w fun e w'=>e = .returned (.tuple #[])∧HA B h n (swp f i j) v w' ∧ Bt v.ownBlock w w':=by
  have a0:=H.var.cell (i:=0) (by omega)
  obtain ⟨g,cap,rfl,hg,hnc,hcm⟩:=H.form (by omega)
  have hi':(i:Int) < (n:Int):=by omega
  have hj':(j:Int) < (n:Int):=by omega
  obtain ⟨ci0,ci1,ci2⟩:=H.at i hi
  obtain ⟨cj0,cj1,cj2⟩:=H.at j hj
  have H2:=H.swap hi hj hg
  have hb:Bt (some g) w ((((((w.setCell ⟨g,i*3,none⟩ (strV (f j).k)).setCell ⟨g,i*3+1,none⟩ (strV (f j).k)).setCell ⟨g,i*3+2,none⟩ (f j).d).setCell ⟨g,j*3,none⟩ (strV (f i).k)).setCell ⟨g,j*3+1,none⟩ (strV (f i).k)).setCell ⟨g,j*3+2,none⟩ (f i).d):=((((((Bt.refl (some g) w).set rfl _).set rfl _).set rfl _).set rfl _).set rfl _).set rfl _
  have ex:∀ {w:World} {xs:List Value},w.ownsRow B 122 3 (.slice (some ⟨g,0,none⟩) n cap) n xs→∀ p,p < n*3→∃ y,w.cell? ⟨g,p,none⟩=some y:=fun {w xs} o p hp=>⟨xs[p]'(by rw [o.1];exact hp),by rw [o.cellAt p hp];simp⟩
  have o0:=H.own
  have z0:=o0.frozenAt (i*3)
  have o1:=(o0.stored (i*3) (strV (f j).k)).1
  obtain ⟨y1,e1⟩:=ex o1 (i*3+1) (by omega)
  have z1:=o1.frozenAt (i*3+1)
  have o2:=(o1.stored (i*3+1) (strV (f j).k)).1
  obtain ⟨y2,e2⟩:=ex o2 (i*3+2) (by omega)
  have z2:=o2.frozenAt (i*3+2)
  have o3:=(o2.stored (i*3+2) (f j).d).1
  obtain ⟨y3,e3⟩:=ex o3 (j*3) (by omega)
  have z3:=o3.frozenAt (j*3)
  have o4:=(o3.stored (j*3) (strV (f i).k)).1
  obtain ⟨y4,e4⟩:=ex o4 (j*3+1) (by omega)
  have z4:=o4.frozenAt (j*3+1)
  have o5:=(o4.stored (j*3+1) (strV (f i).k)).1
  obtain ⟨y5,e5⟩:=ex o5 (j*3+2) (by omega)
  have z5:=o5.frozenAt (j*3+2)
  clear o0 o1 o2 o3 o4 o5 ex H
  unfold strV Ent.d at *
  go_enter Tryz.func86,Tryz.ntmps86
  go_wp2
  go_region
  go_end0
  clear a0 ci0 ci1 ci2 cj0 cj1 cj2 e1 e2 e3 e4 e5 z0 z1 z2 z3 z4 z5
  generalize ((((((w.setCell ⟨g,i*3,none⟩ (.string ⟨(f j).k.toArray⟩)).setCell ⟨g,i*3+1,none⟩ (.string ⟨(f j).k.toArray⟩)).setCell ⟨g,i*3+2,none⟩ (.slice (f j).a (f j).l (f j).c)).setCell ⟨g,j*3,none⟩ (.string ⟨(f i).k.toArray⟩)).setCell ⟨g,j*3+1,none⟩ (.string ⟨(f i).k.toArray⟩)).setCell ⟨g,j*3+2,none⟩ (.slice (f i).a (f i).l (f i).c))=W at H2 hb ⊢
  exact ⟨rfl,⟨H2.var,H2.own,H2.low⟩,⟨hb.os,hb.tape,hb.output,hb.size,hb.block⟩⟩
def SiftPost (B h n:Nat) (f:Nat→Ent) (v:Value) (w:World) (e:Ending) (w':World):Prop:=e = .returned (.tuple #[])∧∃ f',HA B h n f' v w' ∧ Rearr n f f' ∧ Hp f' n∧Bt v.ownBlock w w'
set_option maxHeartbeats 2000000 in
set_option maxRecDepth 100000 in
theorem siftUp_any (B h n i:Nat) (f:Nat→Ent) (v:Value) (w:World) (H:HA B h n f v w) (hi:i < n) (hu:HpUp f n i) :
    Calls Tryz.prog 58 #[.pointer (some ⟨h,0,none⟩),.int .i64 ((i:Nat):Int)] w fun e w'=>SiftPost B h n f v w e w':=by
  obtain ⟨g,cap,rfl,hg,hnc,hcm⟩:=H.form (by omega)
  have hcm':cap≤9223372036854775807:=hcm
  clear hcm
  go_enter Tryz.func58,Tryz.ntmps58
  go_wp2
  go_loopw [1,4] (fun vi _ wr=>∃ (i:Nat) (f':Nat→Ent),i < n∧vi = .int .i64 ((i:Nat):Int)∧HA B h n f' (.slice (some ⟨g,0,none⟩) n cap) wr∧Rearr n f f' ∧ HpUp f' n i∧Bt (some g) w wr) (fun vi _ _=>(intOf vi).toNat)
  case atStart=>exact ⟨i,f,hi,rfl,H,Rearr.refl n f,hu,Bt.refl _ _⟩
  case round=>
    clear H hi hu
    obtain ⟨i,f',hi,rfl,H,hR,hu,hb⟩:=hrel
    by_cases h0:0 < i
    · have h0':(0:Int) < (i:Int):=by omega
      have a0:=H.var.cell (i:=0) (by omega)
      have hp:(i - 1) / 2 < i:=by omega
      have hq:Int.tdiv ((i:Int) - 1) 2=(((i - 1) / 2:Nat):Int):=by
        rw [Int.tdiv_eq_ediv_of_nonneg (by omega)]
        omega
      have c1:=(H.at ((i - 1) / 2) (by omega)).1
      have c2:=(H.at i hi).1
      unfold strV at c1 c2
      have cs:=fun m=>swap_any B h n ((i - 1) / 2) i f' _ (wr.drewN m) (H.drew m) (by omega) hi
      have hus:=fun hl=>up_step hu h0 hi hl
      have hst:=fun hl=>up_stop hu (fun _=>hl)
      have hRs:=hR.trans (Rearr.swp f' (show (i - 1) / 2 < n by omega) hi)
      generalize hpp:(i - 1) / 2=p at *
      have hp':(p:Int) < (n:Int):=by omega
      have hi':(i:Int) < (n:Int):=by omega
      rcases hle:(Op.bytesLess (f' p).k (f' i).k || (f' p).k == (f' i).k) with _ | _
      · have hl:Hp.lt (f' i).k (f' p).k=true:=by
          rcases hx:Hp.lt (f' i).k (f' p).k with _ | _
          · have:=(notAfter_iff (f' p).k (f' i).k).2 hx
            rw [hle] at this
            cases this
          · rfl
        have hus':=hus hl
        clear hus hst hl
        go_wp2_with fail
        go_big_quiet (fail)
        have cs':=cs nq
        have hbq:=hb.drew nq
        have hbs:=hbq.size
        clear cs H hb
        generalize wr.drewN nq=wq at *
        go_wp2_with (first | (go_at_call 86;(with_reducible refine cs'.mono ?_);rintro e w2 ⟨rfl,hH2,hb2⟩))
        go_roundw
        case rel=>exact ⟨p,_,by omega,rfl,hH2,hRs,hus',hbq.trans hb2⟩
        case measure=>simp [intOf];omega
      · have hl:=hst ((notAfter_iff (f' p).k (f' i).k).1 hle)
        clear hus hst
        go_wp2_with fail
        go_big_quiet (fail)
        have H2:=H.drew nq
        have hbq:=hb.drew nq
        clear cs H hb
        generalize wr.drewN nq=wq at *
        go_wp2
        go_end0
        exact ⟨rfl,f',H2,hR,hl,hbq⟩
    · have h0':¬ ((0:Int) < (i:Int)):=by omega
      go_wp2
      go_end0
      exact ⟨rfl,f',H,hR,up_stop hu (fun h=>absurd h h0),hb⟩
theorem lsr_two (n:Nat) (f:Nat→Ent) (i:Nat):(lsr n f (2*i+1) (2*i+2)=2*i+1∨lsr n f (2*i+1) (2*i+2)=2*i+2)∧((lsr n f (2*i+1) (2*i+2)) < n→∀ c,0 < c→c < n→(c - 1) / 2=i→le (f (lsr n f (2*i+1) (2*i+2))).k (f c).k)∧(lsr n f (2*i+1) (2*i+2) < n∨∀ c,0 < c→c < n→(c - 1) / 2≠i):=by
  have hc:∀ c,0 < c→(c - 1) / 2=i→c=2*i+1∨c=2*i+2:=fun c h0 h=>by omega
  by_cases h:2*i+2 < n∧Hp.lt (f (2*i+2)).k (f (2*i+1)).k=true
  · have e:lsr n f (2*i+1) (2*i+2)=2*i+2:=by unfold lsr;rw [if_pos h]
    rw [e]
    refine ⟨.inr rfl,fun _ c h0 hcn hci => ?_,.inl h.1⟩
    rcases hc c h0 hci with rfl | rfl
    · exact le_of_lt h.2
    · exact le_refl _
  · have e:lsr n f (2*i+1) (2*i+2)=2*i+1:=by unfold lsr;rw [if_neg h]
    rw [e]
    refine ⟨.inl rfl,fun _ c h0 hcn hci => ?_,?_⟩
    · rcases hc c h0 hci with rfl | rfl
      · exact le_refl _
      · rcases hx:Hp.lt (f (2*i+2)).k (f (2*i+1)).k with _ | _
        · exact hx
        · exact absurd ⟨hcn,hx⟩ h
    · by_cases hn:2*i+1 < n
      · exact .inl hn
      · refine .inr fun c h0 hcn hci => ?_
        rcases hc c h0 hci with rfl | rfl <;> omega
set_option maxHeartbeats 2000000 in
set_option maxRecDepth 100000 in
theorem siftDown_any (B h n i:Nat) (f:Nat→Ent) (v:Value) (w:World) (H:HA B h n f v w) (hn:n≤4398046511104) (hi:i < n∨i=0) (hu:HpDn f n i) :
    Calls Tryz.prog 59 #[.pointer (some ⟨h,0,none⟩),.int .i64 ((i:Nat):Int)] w fun e w'=>SiftPost B h n f v w e w':=by
  go_enter Tryz.func59,Tryz.ntmps59
  go_wp2
  go_loopw [1,4] (fun vi _ wr=>∃ (i:Nat) (f':Nat→Ent),(i < n∨i=0)∧vi = .int .i64 ((i:Nat):Int)∧HA B h n f' v wr∧Rearr n f f' ∧ HpDn f' n i∧Bt v.ownBlock w wr) (fun vi _ _=>n - (intOf vi).toNat)
  case atStart=>exact ⟨i,f,hi,rfl,H,Rearr.refl n f,hu,Bt.refl _ _⟩
  case round=>
    clear H hi hu
    obtain ⟨i,f',hi,rfl,H,hR,hu,hb⟩:=hrel
    obtain ⟨l1,l2,l3⟩:=lsr_two n f' i
    have k1:=lesser_any B h n (2*i+1) (2*i+2) f' v wr H (by omega) (by omega)
    generalize ha:lsr n f' (2*i+1) (2*i+2)=a at *
    have k2:=fun w' (H':HA B h n f' v w')=>lesser_any B h n i a f' v w' H' (fun _=>by omega) (by omega)
    have dr:∀ {w1 w2:World},HA B h n f' v w1→Bt v.ownBlock w w1→(∃ m,w2=w1.drewN m)→HA B h n f' v w2∧Bt v.ownBlock w w2:=fun {w1 w2} h1 h2 ⟨m,e⟩=>by subst e;exact ⟨h1.drew m,h2.drew m⟩
    have e1:2*((i:Nat):Int)+1=((2*i+1:Nat):Int):=by omega
    have e2:2*((i:Nat):Int)+2=((2*i+2:Nat):Int):=by omega
    by_cases hx:a < n∧Hp.lt (f' a).k (f' i).k=true
    · have el:lsr n f' i a=a:=by unfold lsr;rw [if_pos hx]
      have hin:i < n:=by omega
      rw [el] at k2
      have hs:=dn_step hu (show 0 < a by omega) hx.1 (by omega) hx.2 (l2 hx.1)
      have cs:=fun w' (H':HA B h n f' v w')=>swap_any B h n a i f' v w' H' hx.1 hin
      have hRs:=hR.trans (Rearr.swp f' hx.1 hin)
      have hne:((a:Int) == (i:Int))=false:=by simp;omega
      have hlt:=hx.1
      clear hx el l2 l3 hu ha
      generalize hi2:2*i+1=i1 at *
      generalize hi3:2*i+2=i2 at *
      go_wp2_with (first
        | (go_at_call 87;(with_reducible refine k1.mono ?_);rintro e w1 ⟨rfl,hw1⟩;(obtain ⟨H1,hb1⟩:=dr H hb hw1);clear hw1 H hb k1)
        | (go_at_call 87;(with_reducible refine (k2 _ H1).mono ?_);rintro e w2 ⟨rfl,hw2⟩;(obtain ⟨H2,hb2⟩:=dr H1 hb1 hw2);clear hw2 H1 hb1 k2)
        | (go_at_call 86;(with_reducible refine (cs _ H2).mono ?_);rintro e w3 ⟨rfl,H3,hb3⟩))
      go_roundw
      case rel=>exact ⟨a,_,.inl hlt,rfl,H3,hRs,hs,hb2.trans hb3⟩
      case measure=>simp [intOf];omega
    · have el:lsr n f' i a=i:=by unfold lsr;rw [if_neg hx]
      rw [el] at k2
      have hs:Hp f' n:=dn_stop hu fun c h0 hc hci=>by
        rcases l3 with l3 | l3
        · rcases hy:Hp.lt (f' a).k (f' i).k with _ | _
          · exact le_trans hy (l2 l3 c h0 hc hci)
          · exact absurd ⟨l3,hy⟩ hx
        · exact absurd hci (l3 c h0 hc)
      have hne:((i:Int) == (i:Int))=true:=by simp
      clear hx el l2 l3 hu ha
      generalize hi2:2*i+1=i1 at *
      generalize hi3:2*i+2=i2 at *
      go_wp2_with (first
        | (go_at_call 87;(with_reducible refine k1.mono ?_);rintro e w1 ⟨rfl,hw1⟩;(obtain ⟨H1,hb1⟩:=dr H hb hw1);clear hw1 H hb k1)
        | (go_at_call 87;(with_reducible refine (k2 _ H1).mono ?_);rintro e w2 ⟨rfl,hw2⟩;(obtain ⟨H2,hb2⟩:=dr H1 hb1 hw2);clear hw2 H1 hb1 k2))
      go_end0
      exact ⟨rfl,f',H2,hR,hs,hb2⟩
theorem Tryz.infoEnt:(Tryz.prog.info? 122).map (fun i=>(i.zero,i.size,i.bytes))=some (some (.agg #[.string ⟨#[]⟩,.string ⟨#[]⟩,.slice none 0 0]),3,56):=by kernel_rfl
theorem entC_one (e:Ent):∀ u∈entC e,u.oneCell' = true:=by
  intro u hu
  simp [entC] at hu
  rcases hu with rfl | rfl
  · rfl
  · rfl
theorem cell_three_new (w:World) (x y z:Value) (t:TypeId):∀ j u,[x,y,z][j]? = some u→(w.alloc (.cells #[x,y,z] t)).cell? ((⟨w.heap.size,0,none⟩:Addr).add j)=some u:=by
  intro j u hj
  match j,hj with
  | 0,hj=>simp at hj;subst hj;simp [Addr.add]
  | 1,hj=>simp at hj;subst hj;simp [Addr.add]
  | 2,hj=>simp at hj;subst hj;simp [Addr.add]
theorem step_app_at {P:Program} {ops:Array Oper} {o:Oper} {a:Act} {w:World} {K:Act→World→Prop} {Q:Exit→Act→World→Prop} {E:Prop}
    (hg:o.guard=none) (s x:Operand) (t:TypeId) (hop:o.op=Op.call { callee:=Callee.builtin Builtin.append,args:=#[s,x],argTypes:=#[t,t] })
    (base:Nat) (e:TypeId) (i:TypeInfo) (z:Value) (size bytes:Nat) (h1:P.underlying t=some (.slice e)) (h2:P.info? e=some i) (h3:i.zero=some z) (h4:i.size=size) (h5:i.bytes=bytes) (h6:z.cells.size=size) (h7:0 < size)
    (v:Value) (n:Nat) (xs:List Value) (hs:a.eval s=v) (hown:w.ownsRow base e size v n xs)
    (ad:Addr) (m c:Nat) (news:List Value) (hx:a.eval x = .slice (some ad) m c) (hn:news.length=m*size) (hc:∀ j u,news[j]? = some u→w.cell? (ad.add j)=some u) (h1c:∀ u∈news,u.oneCell' = true)
    (b1:n+m≤maxLen) (b2:(n+m)*bytes≤140737488355328) (hbase:base≤w.heap.size)
    (hK:∀ v' w',w'.ownsRow base e size v' (n+m) (xs++news)→w.grownBy w' v.ownBlock→(v'.ownBlock=v.ownBlock∨v'.ownBlock=some w.heap.size)→K (a.put o.dst v') w') :
    if Region.wanted o (yielded ops a.tmps)=true then Oper.wp P o a w K Q else E:=by
  have hw:Region.wanted o (yielded ops a.tmps)=true:=by simp [Region.wanted,hg]
  rw [if_pos hw]
  obtain ⟨v',w',hr,r1,r2,_,r4⟩:=run_append_own_at (P:=P) w base t o.type e i z size bytes h1 h2 h3 h4 h5 h6 h7 v n xs hown ad m c news hn hc h1c b1 b2 hbase
  unfold Oper.wp
  simp [execOp,hop,resolve,invoke,builtin,hs,hx,hr,Result.andThen]
  exact hK v' w' r1 r2 r4
theorem HA.push {B h n:Nat} {f:Nat→Ent} {v v':Value} {e:Ent} {w wa w1:World} (H:HA B h n f v w) (hB:B≤w.heap.size) (ha:Below w.heap.size w wa) (hg:wa.grownBy w1 v.ownBlock) (ho:w1.ownsRow B 122 3 v' (n+1) (entL n f++entC e)) :
    HA B h (n+1) (fun x=>if x=n then e else f x) v' (w1.setCell ⟨h,0,none⟩ v')∧w1.cell? ⟨h,0,none⟩=some v∧w1.frozen? ⟨h,0,none⟩=false∧Below h w (w1.setCell ⟨h,0,none⟩ v')∧B≤(w1.setCell ⟨h,0,none⟩ v').heap.size:=by
  have hlow:=H.low
  have hsa:=ha.size
  have k:w1.heap[h]? = w.heap[h]?:=(hg.block h (by omega) (fun e'=>by have:=(H.own.lt h e'.symm).1;omega)).trans (ha.block h (by omega))
  have r:=H.var.of_block k
  have hbw:Below B w w1:=((ha.mono hB).grown hg (by omega) (fun x hx=>(H.own.lt x hx).1))
  have hs1:=hbw.size
  refine ⟨⟨(r.set 0 v').congr fun i hi=>by rw [if_pos (by omega)],?_,hlow⟩,r.cell (i:=0) (by omega),r.frozen 0,?_,by simp;omega⟩
  · rw [entL_succ,if_pos rfl,entL_congr (g:=f) fun i hi=>by rw [if_neg (by omega)]]
    exact ownsRow_setCell_below ho (a:=⟨h,0,none⟩) hlow v'
  · exact (hbw.mono (Nat.le_of_lt hlow)).setCell (p:=⟨h,0,none⟩) (Nat.le_refl _) _
theorem up_start {f:Nat→Ent} {n:Nat} {e:Ent} (h:Hp f n):HpUp (fun x=>if x=n then e else f x) (n+1) n:=
  ⟨fun c h0 hc hne=>by
    dsimp only
    rw [if_neg (show ¬ (c - 1) / 2=n by omega),if_neg hne]
    exact h c h0 (by omega),fun c h0 hc hcn _=>by omega⟩
set_option maxHeartbeats 8000000 in
set_option maxRecDepth 100000 in
theorem push_any (B h n:Nat) (f:Nat→Ent) (v:Value) (e:Ent) (w:World) (H:HA B h n f v w) (hB:B≤w.heap.size) (hn:n≤1048576) (hp:Hp f n) :
    Calls Tryz.prog 31 #[.pointer (some ⟨h,0,none⟩),strV e.k,.agg #[strV e.k,e.d]] w fun r w'=>r = .returned (.tuple #[])∧∃ f' v',HA B h (n+1) f' v' w' ∧ Rearr (n+1) (fun x=>if x=n then e else f x) f' ∧ Hp f' (n+1)∧Below h w w' ∧ B≤w'.heap.size:=by
  obtain ⟨i0,hi0,hz0,hz1,hz2⟩:=info_parts Tryz.infoEnt
  have n0:(w.alloc (.cells #[strV e.k,e.d] 42)).rowIs w.heap.size 42 2 (fun j=>if j=0 then strV e.k else e.d):=
    World.rowIs_alloc w #[strV e.k,e.d] 42 _ (fun i hi=>by
      have:i=0∨i=1:=by simp at hi;omega
      rcases this with rfl | rfl <;> rfl)
  have hlow:=H.low
  have b0:Below h w (w.alloc (.cells #[strV e.k,e.d] 42)):=(Below.refl _ _).alloc (by omega) _
  have H0:HA B h n f v (w.alloc (.cells #[strV e.k,e.d] 42)):=⟨H.var.alloc _,H.own.alloc _,H.low⟩
  have hB0:B≤(w.alloc (.cells #[strV e.k,e.d] 42)).heap.size:=by simp;omega
  obtain ⟨bo,cap,rfl⟩:∃ bo cap,v = .slice bo n cap:=by
    rcases H.own.2 with ⟨rfl,rfl⟩ | ⟨g,cap,_,rfl,_⟩ <;> exact ⟨_,_,rfl⟩
  clear H hB
  unfold strV Ent.d at *
  go_enter Tryz.func31,Tryz.ntmps31
  go_wp2_with fail
  have a0:=H0.var.cell (i:=0) (by omega)
  have c0:=n0.cell (i:=0) (by omega)
  have c1:=n0.cell (i:=1) (by omega)
  have a0':=(H0.var.alloc (.cells #[.string ⟨e.k.toArray⟩,.string ⟨e.k.toArray⟩,.slice e.a e.l e.c] 122)).cell (i:=0) (by omega)
  have c0':=(n0.alloc (.cells #[.string ⟨e.k.toArray⟩,.string ⟨e.k.toArray⟩,.slice e.a e.l e.c] 122)).cell (i:=0) (by omega)
  have c1':=(n0.alloc (.cells #[.string ⟨e.k.toArray⟩,.string ⟨e.k.toArray⟩,.slice e.a e.l e.c] 122)).cell (i:=1) (by omega)
  simp only [if_true,Nat.one_ne_zero,if_false] at c0 c1 c0' c1'
  generalize hw0:w.alloc (.cells #[.string ⟨e.k.toArray⟩,.slice e.a e.l e.c] 42)=w0 at *
  clear n0 hw0
  go_region_law ((refine step_app_at rfl _ _ 76 rfl B 122 i0 (.agg #[.string ⟨#[]⟩,.string ⟨#[]⟩,.slice none 0 0]) 3 56 Tryz.underlying76 hi0 hz0 hz1 hz2 rfl (by decide) _ _ _ rfl ((H0.own.alloc _).drew) ⟨w0.heap.size,0,none⟩ 1 1 (entC e) rfl rfl (cell_three_new _ _ _ _ _) (entC_one e) (by unfold maxLen;omega) (by omega) (by simp;omega) ?_;intro v' w1 hown' hgrow hwh;obtain ⟨gq,cq,rfl,_,_⟩:=hown'.form (by omega);obtain ⟨H2,d1,d2,hb2,hB2⟩:=H0.push hB0 (((Below.refl w0.heap.size w0).alloc (Nat.le_refl _) _).drew) hgrow hown'))
  all_goals
    have k3:=siftUp_any B h (n+1) n _ _ _ H2 (by omega) (up_start hp)
    have g0:=H2.var.cell (i:=0) (by omega)
    have hbw:=b0.trans hb2
    clear H0 H2 a0 a0' c0 c0' c1 c1' d1 d2 b0 hb2 hgrow hwh
    generalize w1.setCell ⟨h,0,none⟩ (.slice (some ⟨gq,0,none⟩) (n+1) cq)=w2 at *
    go_wp2_with (first | (go_at_call 58;(with_reducible refine k3.mono ?_);rintro r w3 ⟨rfl,f',H3,hR3,hp3,hb3⟩))
    go_end0
    exact ⟨rfl,f',_,H3,hR3,hp3,hbw.trans ((hb3.below hB2 (fun g hg'=>by have:=(hown'.lt g hg').1;omega)).mono (Nat.le_of_lt hlow)),Nat.le_trans hB2 hb3.size⟩
end Go.Proofs.YtkpcmfgeanlcnabGreatDoor

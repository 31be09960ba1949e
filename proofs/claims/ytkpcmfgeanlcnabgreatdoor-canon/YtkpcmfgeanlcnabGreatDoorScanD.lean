/-
  The program's heap: Len, Pop: run alone.
-/
import Derived.Test.YtkpcmfgeanlcnabGreatDoorHpD
import Derived.Test.YtkpcmfgeanlcnabGreatDoorProg
import Derived.WalkKit
import Derived.WalkSpells
import Derived.WalkLawsBesides
import Derived.Deep.OwnRows
import Derived.Deep.QuietTactic
import Derived.BigQuiet
import Derived.StillTailTactics
namespace Go.Proofs.YtkpcmfgeanlcnabGreatDoor
open Go.RowKit Go.Deep Go.Hp
set_option maxHeartbeats 400000 in
set_option maxRecDepth 100000 in
theorem len_any (B h n:Nat) (f:Nat→Ent) (v:Value) (w:World) (H:HA B h n f v w) :
    Calls Tryz.prog 32 #[.pointer (some ⟨h,0,none⟩)] w fun r w'=>r = .returned (.int .i64 ((n:Nat):Int))∧w' = w:=by
  have a0:=H.var.cell (i:=0) (by omega)
  obtain ⟨bo,cap,rfl⟩:∃ bo cap,v = .slice bo n cap:=by
    rcases H.own.2 with ⟨rfl,rfl⟩ | ⟨g,cap,_,rfl,_⟩ <;> exact ⟨_,_,rfl⟩
  clear H
  go_enter Tryz.func32,Tryz.ntmps32
  go_wp2
  go_ret
  exact ⟨rfl,rfl⟩
theorem owns_less {w:World} {B n g cap:Nat} {f:Nat→Ent} (h:w.ownsRow B 122 3 (.slice (some ⟨g,0,none⟩) (n+1) cap) (n+1) (entL (n+1) f)):w.ownsRow B 122 3 (.slice (some ⟨g,0,none⟩) n cap) n (entL n f):=by
  refine ⟨entL_length n f,.inr ?_⟩
  rcases h.2 with ⟨h1,_⟩ | ⟨g',cap',cur,h1,h2,h3,h4,h5,h6,h7⟩
  · cases h1
  · cases h1
    refine ⟨g,cap,cur,rfl,h2,h3,by omega,h5,h6,?_⟩
    have:=congrArg (List.take (n*3)) h7
    rw [List.take_take,Nat.min_eq_left (by omega),entL_succ,List.take_append_of_le_length (by rw [entL_length];omega)] at this
    rw [this,List.take_of_length_le (by rw [entL_length];omega)]
def popF (n:Nat) (f:Nat→Ent) (x:Nat):Ent:=if x=0 then f n else f x
theorem pop_dn {n:Nat} {f:Nat→Ent} (h:Hp f (n+1)):HpDn (popF n f) n 0:=
  ⟨fun c h0 hc hne=>by
    unfold popF
    rw [if_neg hne,if_neg (by omega)]
    exact h c h0 (by omega),fun c _ _ _ h0=>absurd h0 (by omega)⟩
def PopPost (B h n:Nat) (f:Nat→Ent) (v:Value) (w:World) (r:Ending) (w':World):Prop:=r = .returned (.agg #[strV (f 0).k,(f 0).d])∧∃ f' v',HA B h n f' v' w' ∧ Rearr n (popF n f) f' ∧ Hp f' n∧Below h w w' ∧ B≤w'.heap.size∧∀ b,b < w.heap.size→b≠h→some b≠v.ownBlock→w'.heap[b]? = w.heap[b]?
set_option maxHeartbeats 4000000 in
set_option maxRecDepth 100000 in
theorem pop_any (B h n:Nat) (f:Nat→Ent) (v:Value) (w:World) (H:HA B h (n+1) f v w) (hB:B≤w.heap.size) (hn:n≤1048576) (hp:Hp f (n+1)) :
    Calls Tryz.prog 33 #[.pointer (some ⟨h,0,none⟩)] w fun r w'=>PopPost B h n f v w r w':=by
  obtain ⟨g,cap,rfl,hg,hnc,hcm⟩:=H.form (by omega)
  have hcm':cap≤9223372036854775807:=hcm
  clear hcm
  have hlow:=H.low
  have nR:(w.alloc (.cells #[.string ⟨#[]⟩,.slice none 0 0] 42)).rowIs w.heap.size 42 2 (fun j=>if j=0 then .string ⟨#[]⟩ else .slice none 0 0):=
    World.rowIs_alloc w #[.string ⟨#[]⟩,.slice none 0 0] 42 _ (fun i hi=>by
      have:i=0∨i=1:=by simp at hi;omega
      rcases this with rfl | rfl <;> rfl)
  have H0:HA B h (n+1) f (.slice (some ⟨g,0,none⟩) (n+1) cap) (w.alloc (.cells #[.string ⟨#[]⟩,.slice none 0 0] 42)):=⟨H.var.alloc _,H.own.alloc _,H.low⟩
  have b0:Below h w (w.alloc (.cells #[.string ⟨#[]⟩,.slice none 0 0] 42)):=(Below.refl _ _).alloc (by omega) _
  have s0:(w.alloc (.cells #[.string ⟨#[]⟩,.slice none 0 0] 42)).heap.size=w.heap.size+1:=by simp
  clear H
  generalize hw0:w.alloc (.cells #[.string ⟨#[]⟩,.slice none 0 0] 42)=w0 at *
  have n1:(w0.alloc (.cells #[strV (f 0).k,(f 0).d] 42)).rowIs (w.heap.size+1) 42 2 (fun j=>if j=0 then strV (f 0).k else (f 0).d):=by
    rw [← s0]
    exact World.rowIs_alloc w0 #[strV (f 0).k,(f 0).d] 42 _ (fun i hi=>by
      have:i=0∨i=1:=by simp at hi;omega
      rcases this with rfl | rfl <;> rfl)
  have nR1:=nR.alloc (.cells #[strV (f 0).k,(f 0).d] 42)
  have H1:HA B h (n+1) f (.slice (some ⟨g,0,none⟩) (n+1) cap) (w0.alloc (.cells #[strV (f 0).k,(f 0).d] 42)):=⟨H0.var.alloc _,H0.own.alloc _,H0.low⟩
  have b1:=b0.alloc (by omega) (.cells #[strV (f 0).k,(f 0).d] 42)
  have s1:(w0.alloc (.cells #[strV (f 0).k,(f 0).d] 42)).heap.size=w.heap.size+2:=by simp;omega
  have a0:=H0.var.cell (i:=0) (by omega)
  obtain ⟨c0,c1,c2⟩:=H0.at 0 (by omega)
  have a1:=H1.var.cell (i:=0) (by omega)
  obtain ⟨d0,d1,d2⟩:=H1.at n (by omega)
  obtain ⟨e0,_,_⟩:=H1.at 0 (by omega)
  simp only [Nat.zero_mul,Nat.zero_add] at c0 c1 c2 e0
  have o0:=H1.own
  have ex:∀ {w:World} {xs:List Value},w.ownsRow B 122 3 (.slice (some ⟨g,0,none⟩) (n+1) cap) (n+1) xs→∀ p,p < (n+1)*3→∃ y,w.cell? ⟨g,p,none⟩=some y:=fun {w xs} o p hp=>⟨xs[p]'(by rw [o.1];exact hp),by rw [o.cellAt p hp];simp⟩
  have z0:=o0.frozenAt 0
  have o1:=(o0.stored 0 (strV (f n).k)).1
  obtain ⟨y1,e1⟩:=ex o1 1 (by omega)
  have z1:=o1.frozenAt 1
  have o2:=(o1.stored 1 (strV (f n).k)).1
  obtain ⟨y2,e2⟩:=ex o2 2 (by omega)
  have z2:=o2.frozenAt 2
  have o3:=(o2.stored 2 (f n).d).1
  have hes:=entL_set (n+1) f 0 (by omega) (f n)
  simp only [Nat.zero_mul,Nat.zero_add] at hes
  rw [hes] at o3
  have hgh:h≠g:=by omega
  have hgR:w.heap.size≠g:=by
    have:=(H0.own.lt g rfl).2
    intro e
    subst e
    rcases nR with ⟨cR,q1,q2,_⟩
    rcases H0.own.2 with ⟨q,_⟩ | ⟨g',cap',cur,q,_,q3,_⟩
    · cases q
    · cases q
      rw [q1] at q3
      cases q3
  have hgF:w.heap.size+1≠g:=by
    have:=(H0.own.lt g rfl).2
    omega
  have H2:HA B h (n+1) (popF n f) (.slice (some ⟨g,0,none⟩) (n+1) cap) ((((w0.alloc (.cells #[strV (f 0).k,(f 0).d] 42)).setCell ⟨g,0,none⟩ (strV (f n).k)).setCell ⟨g,1,none⟩ (strV (f n).k)).setCell ⟨g,2,none⟩ (f n).d):=
    ⟨((H1.var.setOther (a:=⟨g,0,none⟩) hgh _).setOther (a:=⟨g,1,none⟩) hgh _).setOther (a:=⟨g,2,none⟩) hgh _,o3,H1.low⟩
  have n2:=((n1.setOther (a:=⟨g,0,none⟩) hgF (strV (f n).k)).setOther (a:=⟨g,1,none⟩) hgF (strV (f n).k)).setOther (a:=⟨g,2,none⟩) hgF (f n).d
  have nR2:=((nR1.setOther (a:=⟨g,0,none⟩) hgR (strV (f n).k)).setOther (a:=⟨g,1,none⟩) hgR (strV (f n).k)).setOther (a:=⟨g,2,none⟩) hgR (f n).d
  have b2:=((b1.setCell (p:=⟨g,0,none⟩) (show h≤g by omega) (strV (f n).k)).setCell (p:=⟨g,1,none⟩) (show h≤g by omega) (strV (f n).k)).setCell (p:=⟨g,2,none⟩) (show h≤g by omega) (f n).d
  have f2:∀ b,b < w.heap.size→b≠g→((((w0.alloc (.cells #[strV (f 0).k,(f 0).d] 42)).setCell ⟨g,0,none⟩ (strV (f n).k)).setCell ⟨g,1,none⟩ (strV (f n).k)).setCell ⟨g,2,none⟩ (f n).d).heap[b]? = w.heap[b]?:=fun b hb hne=>by
    rw [Below.heap_setCell _ _ _ _ hne,Below.heap_setCell _ _ _ _ hne,Below.heap_setCell _ _ _ _ hne,Below.heap_alloc _ _ _ (by omega),← hw0,Below.heap_alloc _ _ _ hb]
  have s2:((((w0.alloc (.cells #[strV (f 0).k,(f 0).d] 42)).setCell ⟨g,0,none⟩ (strV (f n).k)).setCell ⟨g,1,none⟩ (strV (f n).k)).setCell ⟨g,2,none⟩ (f n).d).heap.size=w.heap.size+2:=by simp;omega
  clear o0 o1 o2 o3 hes ex H1 n1 nR1 b1 s1 nR b0
  have ed:((n:Int)+1) - 1=(n:Int):=by omega
  have hnl:(n:Int) < ((n+1:Nat):Int):=by omega
  have hcap:(n:Int)≤(cap:Int):=by omega
  go_enter Tryz.func33,Tryz.ntmps33
  simp only [strV,Ent.d] at *
  go_wp2
  subst hw0
  go_region
  clear a0 c0 c1 c2 a1 d0 d1 d2 e0 e1 e2 z0 z1 z2 H0 s0 y1 y2
  generalize ((((w.alloc (.cells #[.string ⟨#[]⟩,.slice none 0 0] 42)).alloc (.cells #[.string ⟨(f 0).k.toArray⟩,.slice (f 0).a (f 0).l (f 0).c] 42)).setCell ⟨g,0,none⟩ (.string ⟨(f n).k.toArray⟩)).setCell ⟨g,1,none⟩ (.string ⟨(f n).k.toArray⟩)).setCell ⟨g,2,none⟩ (.slice (f n).a (f n).l (f n).c)=W2 at *
  replace H2:HA B h (n+1) (popF n f) (.slice (some ⟨g,0,none⟩) (n+1) cap) W2.drew:=⟨H2.var,H2.own,H2.low⟩
  replace n2:W2.drew.rowIs (w.heap.size+1) 42 2 (fun j=>if j=0 then .string ⟨(f 0).k.toArray⟩ else .slice (f 0).a (f 0).l (f 0).c):=n2
  replace nR2:W2.drew.rowIs w.heap.size 42 2 (fun j=>if j=0 then .string ⟨#[]⟩ else .slice none 0 0):=nR2
  replace b2:Below h w W2.drew:=⟨b2.os,b2.tape,b2.output,b2.size,b2.block⟩
  replace s2:W2.drew.heap.size=w.heap.size+2:=s2
  replace f2:∀ b,b < w.heap.size→b≠g→W2.drew.heap[b]? = w.heap[b]?:=f2
  generalize W2.drew=W3 at *
  have g0:=H2.var.cell (i:=0) (by omega)
  have g1:=H2.var.frozen 0
  have H3:HA B h n (popF n f) (.slice (some ⟨g,0,none⟩) n cap) (W3.setCell ⟨h,0,none⟩ (.slice (some ⟨g,0,none⟩) n cap)):=
    ⟨(H2.var.set 0 (.slice (some ⟨g,0,none⟩) n cap)).congr fun i hi=>by rw [if_pos (by omega)],ownsRow_setCell_below (owns_less H2.own) (a:=⟨h,0,none⟩) hlow _,hlow⟩
  have n3:=n2.setOther (a:=⟨h,0,none⟩) (show w.heap.size+1≠h by omega) (.slice (some ⟨g,0,none⟩) n cap)
  have nR3:=nR2.setOther (a:=⟨h,0,none⟩) (show w.heap.size≠h by omega) (.slice (some ⟨g,0,none⟩) n cap)
  have b3:=b2.setCell (p:=⟨h,0,none⟩) (Nat.le_refl _) (.slice (some ⟨g,0,none⟩) n cap)
  have s3:(W3.setCell ⟨h,0,none⟩ (.slice (some ⟨g,0,none⟩) n cap)).heap.size=w.heap.size+2:=by simp;exact s2
  have k5:=siftDown_any B h n 0 (popF n f) _ _ H3 (by omega) (.inr rfl) (pop_dn hp)
  rw [show ((0:Nat):Int)=0 from rfl] at k5
  clear H2 n2 nR2 b2 s2
  go_wp2_with (first | (go_at_call 59;(with_reducible refine k5.mono ?_);rintro r W5 ⟨rfl,f',H5,hR5,hp5,hb5⟩;have n5:=n3.of_block (hb5.block (w.heap.size+1) (by omega) (fun e=>hgF (Option.some.inj e)));have nR5:=nR3.of_block (hb5.block w.heap.size (by omega) (fun e=>hgR (Option.some.inj e)));have q0:=n5.cell (i:=0) (by omega);have q1:=n5.cell (i:=1) (by omega);have q2:=nR5.cell (i:=0) (by omega);have q3:=nR5.frozen 0;have q4:=(nR5.set 0 (.string ⟨(f 0).k.toArray⟩)).cell (i:=1) (by omega);have q5:=(nR5.set 0 (.string ⟨(f 0).k.toArray⟩)).frozen 1;simp only [if_true,Nat.one_ne_zero,if_false] at q0 q1 q2 q4))
  have hr6:=(nR5.set 0 (.string ⟨(f 0).k.toArray⟩)).set 1 (.slice (f 0).a (f 0).l (f 0).c)
  have H6:HA B h n f' (.slice (some ⟨g,0,none⟩) n cap) ((W5.setCell ⟨w.heap.size,0,none⟩ (.string ⟨(f 0).k.toArray⟩)).setCell ⟨w.heap.size,1,none⟩ (.slice (f 0).a (f 0).l (f 0).c)):=
    ⟨(H5.var.setOther (a:=⟨w.heap.size,0,none⟩) (show h≠w.heap.size by omega) _).setOther (a:=⟨w.heap.size,1,none⟩) (show h≠w.heap.size by omega) _,ownsRow_setCell_other (ownsRow_setCell_other H5.own (a:=⟨w.heap.size,0,none⟩) (fun e=>hgR (Option.some.inj e).symm) _) (a:=⟨w.heap.size,1,none⟩) (fun e=>hgR (Option.some.inj e).symm) _,hlow⟩
  have hb6:Below h w ((W5.setCell ⟨w.heap.size,0,none⟩ (.string ⟨(f 0).k.toArray⟩)).setCell ⟨w.heap.size,1,none⟩ (.slice (f 0).a (f 0).l (f 0).c)):=
    ((b3.trans (hb5.below (by omega) (fun x hx=>by have e:g=x:=Option.some.inj hx;omega))).setCell (p:=⟨w.heap.size,0,none⟩) (show h≤w.heap.size by omega) _).setCell (p:=⟨w.heap.size,1,none⟩) (show h≤w.heap.size by omega) _
  have hs6:B≤((W5.setCell ⟨w.heap.size,0,none⟩ (.string ⟨(f 0).k.toArray⟩)).setCell ⟨w.heap.size,1,none⟩ (.slice (f 0).a (f 0).l (f 0).c)).heap.size:=by
    have:=hb5.size
    simp
    omega
  obtain ⟨cR,r1,r2,r3⟩:=hr6
  have hcR:cR = #[.string ⟨(f 0).k.toArray⟩,.slice (f 0).a (f 0).l (f 0).c]:=by
    have q0:=r3 0 (by omega)
    have q1:=r3 1 (by omega)
    dsimp only at q0 q1
    rw [if_neg (by omega),if_pos rfl] at q0
    rw [if_pos rfl] at q1
    apply Array.ext_getElem?
    intro i
    match i with
    | 0=>rw [q0];rfl
    | 1=>rw [q1];rfl
    | i+2=>rw [Array.getElem?_eq_none (by omega),Array.getElem?_eq_none (by simp)]
  subst hcR
  refine bodyPost_ret (results_cell_row (p:=2) rfl _ _ w.heap.size 42 _ (0,0) _ (by rfl) r1 Tryz.underlying42 rfl (by kernel_rfl)) rfl ?_
  refine ⟨rfl,f',_,H6,hR5,hp5,hb6,hs6,fun b hb hbh hbg => ?_⟩
  have hbg':b≠g:=fun e=>hbg (by rw [e];rfl)
  rw [Below.heap_setCell _ _ _ _ (show b≠w.heap.size by omega),Below.heap_setCell _ _ _ _ (show b≠w.heap.size by omega),hb5.block b (by omega) hbg,Below.heap_setCell _ _ _ _ hbh,f2 b hb hbg']
end Go.Proofs.YtkpcmfgeanlcnabGreatDoor
namespace Go.Proofs.YtkpcmfgeanlcnabGreatDoor
def crcC:Nat:=14514072000185962306
def crcAll:Nat:=18446744073709551615
def crc1 (v:Nat):Nat:=if v % 2=1 then (v / 2) ^^^ crcC else v / 2
def crcN:Nat→Nat→Nat
  | 0,v=>v
  | n+1,v=>crcN n (crc1 v)
def crcB (v b:Nat):Nat:=crcN 8 (v ^^^ b)
def crcL (v:Nat):List Nat→Nat
  | []=>v
  | b :: l=>crcL (crcB v b) l
def crc (l:List Nat):Nat:=crcAll - crcL crcAll l
def crcTab:List Nat:=[0,9051005139383707209,18102010278767414418,9704381199536204507,7257036000092981153,1814259000023245288,11493583972846619443,16292555063049989498,14514072000185962306,13040162471224305931,3628518000046490576,5746791986423309721,12527462061959317731,15006518869663149738,6263731030979658865,3131865515489829432]
def crc4 (v:Nat):Nat:=(v / 16) ^^^ crcTab.getD (v % 16) 0
theorem crc_xor2 (b d:Nat):(b ^^^ d) % 2=if b % 2=d % 2 then 0 else 1:=by
  have h:(b ^^^ d) % 2 ^ 1=(b % 2 ^ 1) ^^^ (d % 2 ^ 1):=Nat.xor_mod_two_pow
  rw [Nat.pow_one] at h
  rw [h]
  have h1:b % 2=0∨b % 2=1:=by omega
  have h2:d % 2=0∨d % 2=1:=by omega
  rcases h1 with h1 | h1 <;> rcases h2 with h2 | h2 <;> rw [h1,h2] <;> rfl
theorem crc_div2 (b d:Nat):(b ^^^ d) / 2=(b / 2) ^^^ (d / 2):=by
  have:=Nat.shiftRight_xor_distrib (a:=b) (b:=d) (i:=1)
  simpa [Nat.shiftRight_eq_div_pow] using this
theorem crc_xor4 (a b c d:Nat):(a ^^^ b) ^^^ (c ^^^ d)=(a ^^^ c) ^^^ (b ^^^ d):=by
  rw [Nat.xor_assoc,Nat.xor_assoc];congr 1
  rw [← Nat.xor_assoc,Nat.xor_comm b,Nat.xor_assoc]
theorem crc1_xor (a b:Nat):crc1 (a ^^^ b)=crc1 a ^^^ crc1 b:=by
  unfold crc1
  generalize crcC=C
  rw [crc_xor2,crc_div2]
  have h1:a % 2=0∨a % 2=1:=by omega
  have h2:b % 2=0∨b % 2=1:=by omega
  rcases h1 with h1 | h1 <;> rcases h2 with h2 | h2 <;> simp [h1,h2]
  · rw [Nat.xor_assoc]
  · rw [Nat.xor_assoc,Nat.xor_assoc,Nat.xor_comm C]
  · rw [crc_xor4,Nat.xor_self,Nat.xor_zero]
theorem crcN_xor:∀ n a b,crcN n (a ^^^ b)=crcN n a ^^^ crcN n b
  | 0,_,_=>rfl
  | n+1,a,b=>by rw [crcN,crcN,crcN,crc1_xor,crcN_xor n]
theorem crcN_add:∀ n m v,crcN (n+m) v=crcN m (crcN n v)
  | 0,m,v=>by simp [crcN]
  | n+1,m,v=>by rw [Nat.succ_add,crcN,crcN,crcN_add n]
theorem crc1_even (v:Nat):crc1 (2*v)=v:=by unfold crc1;rw [if_neg (by omega)];omega
theorem crcN4_16 (h:Nat):crcN 4 (16*h)=h:=by
  have e:16*h=2*(2*(2*(2*h))):=by omega
  rw [e];simp only [crcN,crc1_even]
theorem crcTab_ok:∀ l:Fin 16,crcTab.getD l.val 0=crcN 4 l.val:=by decide +kernel
theorem split16 (v:Nat):v=(16*(v / 16)) ^^^ (v % 16):=by
  have h:=Nat.two_pow_add_eq_or_of_lt (i:=4) (b:=v % 16) (by omega) (v / 16)
  have e:v=2 ^ 4*(v / 16)+v % 16:=by omega
  have h2:2 ^ 4*(v / 16) ||| v % 16=(2 ^ 4*(v / 16)) ^^^ (v % 16):=by
    apply Nat.eq_of_testBit_eq
    intro i
    rw [Nat.testBit_or,Nat.testBit_xor,Nat.testBit_two_pow_mul,show v % 16=v % 2 ^ 4 from rfl,Nat.testBit_mod_two_pow]
    by_cases hi:i < 4
    · simp [hi,Nat.not_le.2 hi]
    · simp [hi,Nat.not_lt.1 hi]
  rw [h2] at h
  calc v=2 ^ 4*(v / 16)+v % 16:=e
    _=_:=h
theorem crc4_eq (v:Nat):crc4 v=crcN 4 v:=by
  have e:=split16 v
  have h:crcN 4 v=crcN 4 (16*(v / 16)) ^^^ crcN 4 (v % 16):=by rw [← crcN_xor,← e]
  rw [h,crcN4_16,crc4,crcTab_ok ⟨v % 16,Nat.mod_lt _ (by omega)⟩]
theorem crcC_lt:crcC < 2 ^ 64:=by decide
theorem crc1_lt {v:Nat} (h:v < 2 ^ 64):crc1 v < 2 ^ 64:=by
  unfold crc1
  split
  · exact Nat.xor_lt_two_pow (by omega) crcC_lt
  · omega
theorem crcN_lt:∀ n {v:Nat},v < 2 ^ 64→crcN n v < 2 ^ 64
  | 0,_,h=>h
  | n+1,_,h=>by rw [crcN];exact crcN_lt n (crc1_lt h)
theorem crc4_lt {v:Nat} (h:v < 2 ^ 64):crc4 v < 2 ^ 64:=by rw [crc4_eq];exact crcN_lt 4 h
theorem crcAll_lt:crcAll < 2 ^ 64:=by decide
theorem crc_lt (l:List Nat):crc l < 2 ^ 64:=Nat.lt_of_le_of_lt (Nat.sub_le _ _) crcAll_lt
theorem crcTab_lt:∀ l:Fin 16,crcTab.getD l.val 0 < 2 ^ 64:=by decide +kernel
end Go.Proofs.YtkpcmfgeanlcnabGreatDoor
namespace Go.Proofs.YtkpcmfgeanlcnabGreatDoor
open Go.RowKit
theorem ret_u64 {a b:Int} (h:a=b):Ending.returned (.int .u64 a) = .returned (.int .u64 b):=by rw [h]
theorem ofInt_u64' (a:Nat) (ha:a < 2 ^ 64):(BitVec.ofInt 64 (a:Int)).toNat=a:=by
  rw [BitVec.ofInt_natCast,BitVec.toNat_ofNat];exact Nat.mod_eq_of_lt ha
theorem wrap_u64_lt (a:Nat) (ha:a < 2 ^ 64):IntKind.u64.wrap (a:Int)=(a:Int):=by
  simp [IntKind.wrap,IntKind.bits,IntKind.signed];omega
theorem u64_xor_lt {a b:Nat} (ha:a < 2 ^ 64) (hb:b < 2 ^ 64):bits .xor .u64 (a:Int) (b:Int)=((a ^^^ b:Nat):Int):=by
  show IntKind.u64.wrap ((BitVec.ofInt 64 (a:Int) ^^^ BitVec.ofInt 64 (b:Int)).toNat:Int)=_
  rw [BitVec.toNat_xor,ofInt_u64' a ha,ofInt_u64' b hb,wrap_u64_lt _ (Nat.xor_lt_two_pow ha hb)]
theorem u64_and15 {a:Nat} (ha:a < 2 ^ 64):bits .and .u64 (a:Int) 15=((a % 16:Nat):Int):=by
  show IntKind.u64.wrap ((BitVec.ofInt 64 (a:Int) &&& BitVec.ofInt 64 ((15:Nat):Int)).toNat:Int)=_
  have h:=Nat.and_two_pow_sub_one_eq_mod a 4
  have h15:a &&& 15=a % 16:=h
  rw [BitVec.toNat_and,ofInt_u64' a ha,ofInt_u64' 15 (by omega),h15,wrap_u64_lt _ (by omega)]
theorem u64_shr4 {a:Nat}:((a:Nat):Int) / 16=((a / 16:Nat):Int):=by omega
theorem all_xor {s:Nat} (hs:s < 2 ^ 64):crcAll ^^^ s=crcAll - s:=by
  have h:(BitVec.allOnes 64 ^^^ BitVec.ofNat 64 s).toNat=(~~~ BitVec.ofNat 64 s).toNat:=by rw [BitVec.allOnes_xor]
  rw [BitVec.toNat_xor,BitVec.toNat_not,BitVec.toNat_allOnes,BitVec.toNat_ofNat,Nat.mod_eq_of_lt hs] at h
  exact h
theorem not_u64 {s:Nat} (hs:s < 2 ^ 64):bits .xor .u64 IntKind.u64.max (s:Int)=((crcAll - s:Nat):Int):=by
  have e:IntKind.u64.max=((crcAll:Nat):Int):=by decide
  rw [e,u64_xor_lt crcAll_lt hs,all_xor hs]
theorem crcL_cons (v b:Nat) (l:List Nat):crcL v (b :: l)=crcL (crcB v b) l:=rfl
theorem crcL_step {k s x m:Nat} {xs:List Nat} (hk:k < xs.length) (ex:xs.getD k 0=x) (H:crcL s (xs.drop k)=m):crcL (crcB s x) (xs.drop (k+1))=m:=by
  rw [List.drop_eq_getElem_cons hk] at H
  have e:xs[k]=x:=by rw [← ex,List.getD_eq_getElem?_getD,List.getElem?_eq_getElem hk];rfl
  rw [e] at H
  exact (crcL_cons s x _).symm.trans H
theorem four {y:Nat} (hy:y < 2 ^ 64):∃ m t z:Nat,m < 16∧t=crcTab.getD m 0∧z < 2 ^ 64∧z=crcN 4 y∧bits .and .u64 (y:Int) 15=(m:Int)∧bits .xor .u64 ((y:Int) / 16) (t:Int)=(z:Int):=by
  refine ⟨y % 16,_,crc4 y,Nat.mod_lt _ (by omega),rfl,crc4_lt hy,crc4_eq y,u64_and15 hy,?_⟩
  rw [u64_shr4,u64_xor_lt (by omega) (crcTab_lt ⟨y % 16,Nat.mod_lt _ (by omega)⟩),crc4]
end Go.Proofs.YtkpcmfgeanlcnabGreatDoor
namespace Go.Proofs.YtkpcmfgeanlcnabGreatDoor
open Go.RowKit Go.Deep
structure But (B:Nat) (S:Nat→Prop) (w w':World):Prop where
  os:w'.os=w.os
  tape:w'.tape=w.tape
  output:w'.output=w.output
  size:w.heap.size≤w'.heap.size
  block:∀ k,k < B→¬ S k→w'.heap[k]? = w.heap[k]?
theorem But.refl (B:Nat) (S:Nat→Prop) (w:World):But B S w w:=⟨rfl,rfl,rfl,Nat.le_refl _,fun _ _ _=>rfl⟩
theorem But.trans {B:Nat} {S:Nat→Prop} {a b c:World} (h:But B S a b) (k:But B S b c):But B S a c:=
  ⟨k.os.trans h.os,k.tape.trans h.tape,k.output.trans h.output,Nat.le_trans h.size k.size,fun i hi hs=>(k.block i hi hs).trans (h.block i hi hs)⟩
theorem But.mono {B B':Nat} {S S':Nat→Prop} {a b:World} (h:But B S a b) (hB:B' ≤ B) (hS:∀ k,S k→S' k):But B' S' a b:=
  ⟨h.os,h.tape,h.output,h.size,fun k hk hs=>h.block k (Nat.lt_of_lt_of_le hk hB) (fun x=>hs (hS k x))⟩
theorem But.of_below {B:Nat} {S:Nat→Prop} {a b:World} (h:Below B a b):But B S a b:=⟨h.os,h.tape,h.output,h.size,fun k hk _=>h.block k hk⟩
theorem But.setCell {B:Nat} {S:Nat→Prop} {a w:World} (h:But B S a w) {p:Addr} (hp:B≤p.block∨S p.block) (u:Value):But B S a (w.setCell p u):=
  h.trans ⟨rfl,rfl,rfl,by simp [World.setCell],fun k hk hs=>Below.heap_setCell _ _ _ _ (by
    rintro rfl
    rcases hp with x | x
    · omega
    · exact hs x)⟩
theorem But.alloc {B:Nat} {S:Nat→Prop} {a w:World} (h:But B S a w) (hB:B≤w.heap.size) (o:Obj):But B S a (w.alloc o):=
  h.trans (.of_below ((Below.refl _ _).alloc hB o))
theorem But.drew {B:Nat} {S:Nat→Prop} {a w:World} (h:But B S a w):But B S a w.drew:=⟨h.os,h.tape,h.output,h.size,h.block⟩
theorem But.grown {B:Nat} {S:Nat→Prop} {a w w':World} {row:Option Nat} (h:But B S a w) (hg:w.grownBy w' row) (hB:B≤w.heap.size) (hr:∀ k,row=some k→B≤k):But B S a w':=
  h.trans (.of_below ((Below.refl _ _).grown hg hB hr))
theorem But.cell {B:Nat} {S:Nat→Prop} {w w':World} (h:But B S w w') {p:Addr} (hp:p.block < B) (hs:¬ S p.block):w'.cell? p=w.cell? p:=World.cell?_of_block (w:=w) (h.block p.block hp hs)
theorem But.below {B:Nat} {S:Nat→Prop} {w w':World} (h:But B S w w') (hS:∀ k,k < B→¬ S k):Below B w w':=⟨h.os,h.tape,h.output,h.size,fun k hk=>h.block k hk (hS k hk)⟩
def RowAt (w:World) (b:Nat) (cs:List Value) (t:TypeId):Prop:=w.heap[b]? = some (.cells cs.toArray t (0,0))
theorem RowAt.cell {w:World} {b:Nat} {cs:List Value} {t:TypeId} (h:RowAt w b cs t) {i:Nat} {v:Value} (hi:cs[i]? = some v):w.cell? ⟨b,i,none⟩=some v:=by
  unfold RowAt at h
  simp [World.cell?,h,hi]
theorem RowAt.frozen {w:World} {b:Nat} {cs:List Value} {t:TypeId} (h:RowAt w b cs t) (i:Nat):w.frozen? ⟨b,i,none⟩=false:=by
  unfold RowAt at h
  simp [World.frozen?,h]
theorem RowAt.lt {w:World} {b:Nat} {cs:List Value} {t:TypeId} (h:RowAt w b cs t):b < w.heap.size:=by
  unfold RowAt at h
  exact (Array.getElem?_eq_some_iff.1 h).1
theorem RowAt.set {w:World} {b:Nat} {cs:List Value} {t:TypeId} (h:RowAt w b cs t) (i:Nat) (v:Value):RowAt (w.setCell ⟨b,i,none⟩ v) b (cs.set i v) t:=by
  unfold RowAt at *
  simp [World.setCell,Array.getElem?_modify,h]
theorem RowAt.later {w w':World} {b:Nat} {cs:List Value} {t:TypeId} {B:Nat} {S:Nat→Prop} (h:RowAt w b cs t) (hb:But B S w w') (h1:b < B) (h2:¬ S b):RowAt w' b cs t:=by
  unfold RowAt at *
  rw [hb.block b h1 h2];exact h
theorem RowAt.made (w:World) (cs:List Value) (t:TypeId):RowAt (w.alloc (.cells cs.toArray t)) w.heap.size cs t:=by
  show (w.heap.push _)[w.heap.size]? = _
  simp
section
variable {w:World} {sb:Nat} {v:Value} {at_ e p:Nat}
end
def first (e x:Nat):Nat:=if e=0 then x else e
def bAt (l:List UInt8) (i:Nat):Nat:=(l.getD i 0).toNat
theorem bAt_lt (l:List UInt8) (i:Nat):bAt l i < 256:=UInt8.toNat_lt _
def le (l:List UInt8) (a:Nat):Nat→Nat
  | 0=>0
  | n+1=>bAt l a+256*le l (a+1) n
theorem le_lt (l:List UInt8):∀ (n a:Nat),le l a n < 256 ^ n
  | 0,_=>by simp [le]
  | n+1,a=>by
    have h1:=bAt_lt l a
    have h2:=le_lt l n (a+1)
    simp only [le,Nat.pow_succ]
    omega
def Byt (w:World) (bb bo:Nat) (l:List UInt8):Prop:=∀ i,i < l.length→w.cell? ⟨bb,bo+i,none⟩=some (.int .u8 (bAt l i:Int))
theorem Byt.later {w w':World} {bb bo:Nat} {l:List UInt8} {B:Nat} {S:Nat→Prop} (h:Byt w bb bo l) (hb:But B S w w') (h1:bb < B) (h2:¬ S bb):Byt w' bb bo l:=fun i hi=>(hb.cell (p:=⟨bb,bo+i,none⟩) h1 h2).trans (h i hi)
theorem ret_i64 {a b:Int} (h:a=b):Ending.returned (.int .i64 a) = .returned (.int .i64 b):=by rw [h]
def fixE (l:List UInt8) (a:Nat):List UInt8→Option (Nat×Nat)
  | []=>none
  | c :: ws=>if l.length≤a then some (4,l.length) else if bAt l a=c.toNat then fixE l (a+1) ws else some (5,a)
theorem But.drewN {B:Nat} {S:Nat→Prop} {a w:World} (h:But B S a w) (n:Nat):But B S a (w.drewN n):=h.trans ⟨rfl,rfl,rfl,Nat.le_refl _,fun _ _ _=>rfl⟩
theorem index_str (ws:List UInt8) (i:Nat) (hi:i < ws.length):∀ w,(Instr.index 9 (.string ⟨ws.toArray⟩) (.int .i64 (i:Int))).run Tryz.prog w = .ok (.int .u8 ((ws.getD i 0).toNat:Int)) w:=by
  intro w
  rw [run_index_string w 9 _ _ _ Tryz.underlying9]
  have h:0≤(i:Int)∧(i:Int) < ((⟨ws.toArray⟩:ByteArray).size:Int):=by simp [ByteArray.size];omega
  rw [dif_pos h]
  have e:ws.getD i 0=ws[i]:=by rw [List.getD_eq_getElem?_getD,List.getElem?_eq_getElem hi];rfl
  rw [e]
  rfl
theorem infoB8:(Tryz.prog.info? 5).map (fun i=>(i.zero,i.size,i.bytes))=some (some (.int .u8 0),1,1):=by kernel_rfl
def u8V (l:List UInt8):List Value:=l.map fun b=>Value.int .u8 (b.toNat:Int)
theorem u8V_length (l:List UInt8):(u8V l).length=l.length:=by simp [u8V]
theorem u8V_at {l:List UInt8} {j:Nat} {u:Value} (h:(u8V l)[j]? = some u):j < l.length∧u = .int .u8 (bAt l j:Int):=by
  obtain ⟨hj,e⟩:=List.getElem?_eq_some_iff.1 h
  have hj':j < l.length:=by simpa [u8V] using hj
  refine ⟨hj',?_⟩
  rw [← e]
  simp only [u8V,List.getElem_map,bAt,List.getD_eq_getElem?_getD,List.getElem?_eq_getElem hj',Option.getD_some]
theorem u8V_one (l:List UInt8):∀ u∈u8V l,u.oneCell' = true:=by
  intro u hu
  simp only [u8V,List.mem_map] at hu
  obtain ⟨b,_,rfl⟩:=hu
  rfl
theorem add_off (b off j:Nat):(⟨b,off,none⟩:Addr).add j=⟨b,off+j,none⟩:=by
  unfold Addr.add
  by_cases h:j=0 <;> simp [h]
theorem Byt.news {w:World} {bb bo:Nat} {l:List UInt8} (h:Byt w bb bo l):∀ j u,(u8V l)[j]? = some u→w.cell? ((⟨bb,bo,none⟩:Addr).add j)=some u:=by
  intro j u hj
  obtain ⟨h1,rfl⟩:=u8V_at hj
  rw [add_off];exact h j h1
def leB:Nat→Nat→List UInt8
  | 0,_=>[]
  | n+1,v=>UInt8.ofNat (v % 256) :: leB n (v / 256)
theorem leB_length:∀ n v,(leB n v).length=n
  | 0,_=>rfl
  | n+1,v=>by simp [leB,leB_length n]
theorem leB_snoc:∀ n v,leB (n+1) v=leB n v++[UInt8.ofNat (v / 256 ^ n % 256)]
  | 0,v=>by simp [leB]
  | n+1,v=>by
    show UInt8.ofNat (v % 256) :: leB (n+1) (v / 256)=(UInt8.ofNat (v % 256) :: leB n (v / 256))++_
    rw [leB_snoc n (v / 256),List.cons_append,Nat.div_div_eq_div_mul,Nat.pow_succ,Nat.mul_comm]
def sumOf (l:List UInt8):Nat:=crc (l.map UInt8.toNat)
theorem map_getD (l:List UInt8) (i:Nat):(l.map UInt8.toNat).getD i 0=bAt l i:=by
  simp only [bAt,List.getD_eq_getElem?_getD,List.getElem?_map]
  cases l[i]? <;> rfl
theorem u8V_snoc (l:List UInt8) (x:Nat) (hx:x < 256) (m:List UInt8) (e:m=l++[UInt8.ofNat x]):u8V l++[.int .u8 (x:Int)]=u8V m:=by
  subst e
  simp only [u8V,List.map_append,List.map_cons,List.map_nil]
  rw [UInt8.toNat_ofNat',Nat.mod_eq_of_lt (by simpa using hx)]
theorem one_u8' (x:Int):∀ u∈[Value.int .u8 x],u.oneCell' = true:=by intro u hu;simp at hu;subst hu;rfl
theorem sumOf_lt (l:List UInt8):sumOf l < 2 ^ 64:=crc_lt _
def part (l:List UInt8) (a n:Nat):List UInt8:=(l.drop a).take n
theorem part_length {l:List UInt8} {a n:Nat} (h:a+n≤l.length):(part l a n).length=n:=by simp [part];omega
theorem part_at {l:List UInt8} {a n i:Nat} (hi:i < n):bAt (part l a n) i=bAt l (a+i):=by
  simp [bAt,part,List.getD_eq_getElem?_getD,hi]
theorem Byt.part {w:World} {bb bo:Nat} {l:List UInt8} (h:Byt w bb bo l) {a n:Nat} (hn:a+n≤l.length):Byt w bb (bo+a) (part l a n):=by
  intro i hi
  rw [part_length hn] at hi
  rw [part_at hi,Nat.add_assoc]
  exact h (a+i) (by omega)
def sealE (l:List UInt8) (a n:Nat):Option (Nat×Nat):=
  if l.length < a+n+8 then some (4,l.length) else if part l (a+n) 8=leB 8 (sumOf (part l a n)) then none else some (6,a+n)
theorem mixed:Tryz.prog.follows .mixedOrders=true:=by kernel_rfl
theorem wp_region_tail {P:Program} {id:Nat} {Q:Exit→Act→World→Prop} {a:Act} {w:World} {l:List Oper} (n:Nat) (hm:P.follows .mixedOrders=true) (hB:Region.lexTailB .any l.toArray n=true)
    (h:wpStill P l.toArray w.drew (fun a'=>wpList P l.toArray Q (l.drop n) a' w.drew) (l.take n) a):(Code.region id l.toArray true).wp P Q a w:=wp_region_still_tail n hm hB h
set_option maxRecDepth 100000 in
theorem slice_part (bb bo len cap:Nat) (L H:Int) (a h:Nat) (hL:L=a) (hH:H=h) (hah:a≤h) (hc:h≤cap) (ha:a < cap):∀ w,(Instr.slice 33 (.slice (some ⟨bb,bo,none⟩) len cap) (some (.int .i64 L)) (some (.int .i64 H)) none).run Tryz.prog w = .ok (.slice (some ⟨bb,bo+a,none⟩) (h - a) (cap - a)) w:=by
  intro w
  subst hL hH
  have hu:Tryz.prog.underlying 33=some (.slice (Tryz.prog.elem 33)):=Tryz.underlying33
  rw [run_slice_lh w 33 _ _ _ hu .i64 .i64 a h (by omega) (by omega) (by omega)]
  have hsz:(sizeOf (Tryz.prog.elem 33)).run Tryz.prog w = .ok 1 w:=by
    simp [sizeOf,go_sem]
    rfl
  rw [hsz]
  simp only [Result.andThen,sliced,Int.toNat_natCast,Nat.mul_one]
  rw [if_neg (by omega)]
  simp [add_off]
end Go.Proofs.YtkpcmfgeanlcnabGreatDoor

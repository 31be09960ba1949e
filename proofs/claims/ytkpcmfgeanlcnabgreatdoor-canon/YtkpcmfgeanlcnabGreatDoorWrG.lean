/-
  Blobs put in the order of their names by the program: run alone.
-/
import Derived.Test.YtkpcmfgeanlcnabGreatDoorScanD
import Derived.Test.YtkpcmfgeanlcnabGreatDoorWrC
import Derived.Test.YtkpcmfgeanlcnabGreatDoorWrE
import Derived.Deep.QuietTactic
import Derived.BigQuiet
import Derived.Laws.MakeOwn
namespace Go.Proofs.YtkpcmfgeanlcnabGreatDoor
open Go.RowKit Go.Deep Go.Hp
theorem Tryz.infoBlob:(Tryz.prog.info? 42).map (fun i=>(i.zero,i.size,i.bytes))=some (some (.agg #[.string ⟨#[]⟩,.slice none 0 0]),2,40):=by kernel_rfl
def blobC (e:Ent):List Value:=[strV e.k,e.d]
def blobL (n:Nat) (f:Nat→Ent):List Value:=(List.range n).flatMap fun i=>blobC (f i)
theorem blobL_succ (n:Nat) (f:Nat→Ent):blobL (n+1) f=blobL n f++blobC (f n):=by
  unfold blobL
  rw [List.range_succ,List.flatMap_append]
  simp
theorem blobL_length (n:Nat) (f:Nat→Ent):(blobL n f).length=n*2:=by
  induction n with
  | zero=>rfl
  | succ n ih=>rw [blobL_succ,List.length_append,ih];simp [blobC];omega
theorem blobL_get (n:Nat) (f:Nat→Ent) (i p:Nat) (hi:i < n) (hp:p < 2):(blobL n f)[i*2+p]? = (blobC (f i))[p]?:=by
  induction n with
  | zero=>omega
  | succ n ih=>
    rw [blobL_succ]
    by_cases e:i=n
    · subst e
      rw [List.getElem?_append_right (by rw [blobL_length];omega),blobL_length,show i*2+p - i*2=p by omega]
    · rw [List.getElem?_append_left (by rw [blobL_length];omega),ih (by omega)]
theorem blobL_congr {n:Nat} {f g:Nat→Ent} (h:∀ i,i < n→f i=g i):blobL n f=blobL n g:=by
  induction n with
  | zero=>rfl
  | succ n ih=>rw [blobL_succ,blobL_succ,ih fun i hi=>h i (by omega),h n (by omega)]
theorem blobC_one (e:Ent):∀ u∈blobC e,u.oneCell' = true:=by
  intro u hu
  simp [blobC] at hu
  rcases hu with rfl | rfl <;> rfl
structure BC (w:World) (bo:Option Addr) (n:Nat) (f:Nat→Ent):Prop where
  here:0 < n→∃ b o,bo=some ⟨b,o,none⟩∧b < w.heap.size∧∀ i,i < n→w.cell? ⟨b,o+i*2,none⟩=some (strV (f i).k)∧w.cell? ⟨b,o+i*2+1,none⟩=some (f i).d
theorem BC.below {w w':World} {bo:Option Addr} {n B:Nat} {f:Nat→Ent} (h:BC w bo n f) (hb:Below B w w') (hB:w.heap.size≤B):BC w' bo n f:=⟨fun hn=>by
  obtain ⟨b,o,h1,h2,h3⟩:=h.here hn
  exact ⟨b,o,h1,Nat.lt_of_lt_of_le h2 hb.size,fun i hi=>⟨(hb.cell (p:=⟨b,_,none⟩) (Nat.lt_of_lt_of_le h2 hB)).trans (h3 i hi).1,(hb.cell (p:=⟨b,_,none⟩) (Nat.lt_of_lt_of_le h2 hB)).trans (h3 i hi).2⟩⟩⟩
theorem owns_keep' {w w':World} {B e s n:Nat} {v:Value} {xs:List Value} (h:w.ownsRow B e s v n xs) (hk:∀ g,v.ownBlock=some g→w'.heap[g]? = w.heap[g]?):w'.ownsRow B e s v n xs:=by
  refine ⟨h.1,?_⟩
  rcases h.2 with h1 | ⟨g,cap,cur,h1,h2,h3,h4⟩
  · exact .inl h1
  · exact .inr ⟨g,cap,cur,h1,h2,by rw [hk g (by rw [h1];rfl)];exact h3,h4⟩
theorem kind_ne {w:World} {B B' t t' s s' n n':Nat} {v v':Value} {xs xs':List Value} (h:w.ownsRow B t s v n xs) (h':w.ownsRow B' t' s' v' n' xs') (ht:t≠t') {b:Nat} (hb:v.ownBlock=some b):v'.ownBlock≠some b:=fun hb'=>by
  obtain ⟨c1,f1,e1⟩:=Lib.ownsRow_kind h b hb
  obtain ⟨c2,f2,e2⟩:=Lib.ownsRow_kind h' b hb'
  rw [e1] at e2
  cases e2
  exact ht rfl
theorem owns_new (w:World) (n B:Nat) (hB:B≤w.heap.size) (hn:n≤1048576):(w.alloc (.cells (madeCells #[.string ⟨#[]⟩,.slice none 0 0] (n*2)) 42)).ownsRow B 42 2 (.slice (some ⟨w.heap.size,0,none⟩) 0 n) 0 []:=
  ⟨rfl,.inr ⟨w.heap.size,n,madeCells #[.string ⟨#[]⟩,.slice none 0 0] (n*2),rfl,hB,heap_alloc_new _ _,by omega,by unfold maxLen;omega,size_madeCells _ _,rfl⟩⟩
theorem cell_two_new (w:World) (x y:Value) (t:TypeId):∀ j u,[x,y][j]? = some u→(w.alloc (.cells #[x,y] t)).cell? ((⟨w.heap.size,0,none⟩:Addr).add j)=some u:=by
  intro j u hj
  match j,hj with
  | 0,hj=>simp at hj;subst hj;simp [Addr.add]
  | 1,hj=>simp at hj;subst hj;simp [Addr.add]
theorem keep_blobs {w w':World} {h n m:Nat} {fh out:Nat→Ent} {v v':Value} (hown:w.ownsRow (h+1) 42 2 v' m (blobL m out)) (H:w.ownsRow (h+1) 122 3 v n (entL n fh)) (hfr:∀ b,b < w.heap.size→b≠h→some b≠v.ownBlock→w'.heap[b]? = w.heap[b]?):w'.ownsRow (h+1) 42 2 v' m (blobL m out):=
  owns_keep' hown fun g hg=>hfr g (hown.lt g hg).2 (by have:=(hown.lt g hg).1;omega) (fun e=>kind_ne hown H (by decide) hg e.symm)
theorem new_blob (w:World) (e:Ent):(w.alloc (.cells #[.string ⟨e.k.toArray⟩,.slice e.a e.l e.c] 42)).cell? ⟨w.heap.size,0,none⟩=some (.string ⟨e.k.toArray⟩)∧(w.alloc (.cells #[.string ⟨e.k.toArray⟩,.slice e.a e.l e.c] 42)).cell? ⟨w.heap.size,1,none⟩=some (.slice e.a e.l e.c):=by
  constructor <;> simp
theorem make_blobs (n:Nat) (hn:n≤1048576) (w:World):(Instr.makeSlice 26 (.int .i64 0) (.int .i64 (n:Int))).run Tryz.prog w = .ok (.slice (some ⟨w.heap.size,0,none⟩) 0 n) (w.alloc (.cells (madeCells #[.string ⟨#[]⟩,.slice none 0 0] (n*2)) 42)):=by
  obtain ⟨i0,hi0,hz0,hz1,hz2⟩:=info_parts Tryz.infoBlob
  have:=run_make (P:=Tryz.prog) w 26 42 i0 _ Tryz.underlying26 hi0 hz0 .i64 .i64 0 n (by omega) (by omega) (by rw [hz2];omega) (by omega)
  rw [hz1] at this
  simp only [Int.toNat_natCast] at this
  exact this
theorem dup_not {n:Nat} {f g:Nat→Ent} (h:Rearr n f g) {i j:Nat} (hi:i < n) (hj:j < n) (hij:i≠j) (e:(g i).k=(g j).k):¬ (∀ i j,i < j→j < n→(f i).k≠(f j).k):=by
  obtain ⟨i',j',h1,h2,h3,h4,h5⟩:=h.two hi hj hij
  rw [h4,h5] at e
  intro hd
  rcases Nat.lt_or_ge i' j' with h | h
  · exact hd i' j' h h2 e
  · exact hd j' i' (by omega) h1 e.symm
theorem lt_far {n:Nat} {f:Nat→Ent} (h:∀ i,i+1 < n→Hp.lt (f i).k (f (i+1)).k=true):∀ d i,i+d+1 < n→Hp.lt (f i).k (f (i+d+1)).k=true
  | 0,i,hi=>h i hi
  | d+1,i,hi=>Hp.lt_trans (lt_far h d i (by omega)) (h (i+d+1) (by omega))
theorem apart_of {n:Nat} {f g:Nat→Ent} (h:Rearr n f g) (hs:∀ i,i+1 < n→Hp.lt (g i).k (g (i+1)).k=true):∀ i j,i < j→j < n→(f i).k≠(f j).k:=fun i j hij hj e=>by
  refine dup_not h.symm (i:=i) (j:=j) (by omega) hj (by omega) e fun i j hij hj e => ?_
  have:=lt_far hs (j - i - 1) i (by omega)
  rw [show i+(j - i - 1)+1=j by omega,e,Hp.lt_irrefl] at this
  cases this
def Fits (k:List UInt8):Prop:=1≤k.length∧k.length≤255
def NamesFit (n:Nat) (f:Nat→Ent):Prop:=(∀ i,i < n→Fits (f i).k)∧∀ i j,i < j→j < n→(f i).k≠(f j).k
def ByPost (n:Nat) (f:Nat→Ent) (w:World) (r:Ending) (w':World):Prop:=
  Below w.heap.size w w' ∧ ((¬ NamesFit n f∧r = .returned (.tuple #[.slice none 0 0,.bool false])) ∨
    (NamesFit n f∧∃ f' v,r = .returned (.tuple #[v,.bool true])∧Rearr n f f' ∧ (∀ i,i+1 < n→Hp.lt (f' i).k (f' (i+1)).k=true)∧w'.ownsRow w.heap.size 42 2 v n (blobL n f')))
theorem next_inv {h i m k:Nat} {f out fh f2:Nat→Ent} {v2 vs v':Value} {w W4 wa w5:World} (hk:i - m=k+1) (hp:Hp fh (k+1)) (hR':Rearr i f (fun x=>if x < m+1 then (if x=m then fh 0 else out x) else (if x - (m+1)=0 then fh k else fh (x - (m+1)))))
    (hsrt:∀ x,x+1 < m→Hp.lt (out x).k (out (x+1)).k=true) (hle:∀ x,x < k+1→0 < m→Hp.le (out (m - 1)).k (fh x).k) (hne:0 < m→(out (m - 1)).k≠(fh 0).k) (hR2:Rearr k (popF k fh) f2) (hp2:Hp f2 k) (H4:HA (h+1) h k f2 v2 W4) (b4:Below h w W4) (s4:h+1≤W4.heap.size) (o4:W4.ownsRow (h+1) 42 2 vs m (blobL m out))
    (ha:Below W4.heap.size W4 wa) (hg:wa.grownBy w5 vs.ownBlock) (ho:w5.ownsRow (h+1) 42 2 v' (m+1) (blobL m out++blobC (fh 0))) :
    m+1≤i∧HA (h+1) h (i - (m+1)) f2 v2 w5∧Hp f2 (i - (m+1))∧Rearr i f (fun x=>if x < m+1 then (fun x=>if x=m then fh 0 else out x) x else f2 (x - (m+1)))∧(∀ x,x+1 < m+1→Hp.lt ((fun x=>if x=m then fh 0 else out x) x).k ((fun x=>if x=m then fh 0 else out x) (x+1)).k=true)∧(∀ x,x < i - (m+1)→0 < m+1→Hp.le ((fun x=>if x=m then fh 0 else out x) (m+1 - 1)).k (f2 x).k)∧w5.ownsRow (h+1) 42 2 v' (m+1) (blobL (m+1) (fun x=>if x=m then fh 0 else out x))∧Below h w w5∧h+1≤w5.heap.size:=by
  have ek:i - (m+1)=k:=by omega
  have hsa:=ha.size
  have kb:∀ b,b < W4.heap.size→some b≠vs.ownBlock→w5.heap[b]? = W4.heap[b]?:=fun b hb hne=>(hg.block b (by omega) hne).trans (ha.block b hb)
  have hbw:Below (h+1) W4 w5:=((ha.mono s4).grown hg (by omega) (fun x hx=>(o4.lt x hx).1))
  have hs5:=hbw.size
  rw [ek]
  refine ⟨by omega,⟨H4.var.of_block (kb h (by omega) (fun e=>by have:=(o4.lt h e.symm).1;omega)),owns_keep' H4.own fun g hg'=>kb g (H4.own.lt g hg').2 (fun e=>kind_ne H4.own o4 (by decide) hg' e.symm),H4.low⟩,hp2,?_,?_,?_,?_,b4.trans (hbw.mono (by omega)),by omega⟩
  · exact hR'.trans (Rearr.tail (m:=m+1) (o:=fun x=>if x=m then fh 0 else out x) hR2 (by omega))
  · intro x hx
    dsimp only
    rw [if_neg (show ¬ x=m by omega)]
    by_cases e:x+1=m
    · rw [if_pos e]
      have:=hle 0 (by omega) (by omega)
      have h3:=Hp.lt_of_le_ne this (hne (by omega))
      rw [show m - 1=x by omega] at h3
      exact h3
    · rw [if_neg e]
      exact hsrt x (by omega)
  · intro x hx _
    dsimp only
    rw [Nat.add_sub_cancel,if_pos rfl]
    obtain ⟨j,hj,ej⟩:=hR2.from hx
    rw [ej]
    unfold popF
    split
    · exact hp_min hp k (by omega)
    · exact hp_min hp j (by omega)
  · rw [blobL_succ,if_pos rfl,blobL_congr (g:=out) fun j hj=>by rw [if_neg (by omega)]]
    exact ho
set_option maxHeartbeats 4000000 in
set_option maxRecDepth 100000 in
theorem byName_any (n cap:Nat) (bo:Option Addr) (f:Nat→Ent) (w:World) (hn:n≤1048576) (hk:∀ i,i < n→(f i).k.length≤9223372036854775807) (hB:BC w bo n f) :
    Calls Tryz.prog 19 #[.slice bo n cap] w fun r w'=>ByPost n f w r w':=by
  obtain ⟨i0,hi0,hz0,hz1,hz2⟩:=info_parts Tryz.infoBlob
  have v0:(w.alloc (.cells #[.slice none 0 0] 78)).rowIs w.heap.size 78 1 (fun _=>.slice none 0 0):=
    World.rowIs_alloc w #[.slice none 0 0] 78 (fun _=>.slice none 0 0) (fun i hi=>by
      obtain rfl:i=0:=by simp at hi;omega
      rfl)
  have b0:Below w.heap.size w (w.alloc (.cells #[.slice none 0 0] 78)):=(Below.refl _ _).alloc (Nat.le_refl _) _
  have s0:(w.alloc (.cells #[.slice none 0 0] 78)).heap.size=w.heap.size+1:=by simp
  have H0:HA (w.heap.size+1) w.heap.size 0 f (.slice none 0 0) (w.alloc (.cells #[.slice none 0 0] 78)):=⟨v0,World.ownsRow_nil _ _ _ _,by omega⟩
  go_enter Tryz.func19,Tryz.ntmps19
  go_wp2
  generalize w.alloc (.cells #[.slice none 0 0] 78)=w0 at *
  generalize hh:w.heap.size=h at *
  go_loopw [6,11] (fun _ vi wr=>∃ (i:Nat) (f':Nat→Ent) (v:Value),i≤n∧vi = .int .i64 ((i:Nat):Int)∧HA (h+1) h i f' v wr∧Rearr i f f' ∧ Hp f' i∧Below h w wr∧h+1≤wr.heap.size∧∀ j,j < i→Fits (f j).k) (fun _ vi _=>n - (intOf vi).toNat)
  case atStart=>exact ⟨0,f,_,by omega,rfl,H0,Rearr.refl _ _,fun c _ hc=>absurd hc (by omega),b0,by omega,fun j hj=>absurd hj (by omega)⟩
  case round=>
    clear v0 b0 s0 H0
    obtain ⟨i,f',v,hi,rfl,H,hR,hp,hb,hs,hf⟩:=hrel
    by_cases hlt:i < n
    · have hlt':(i:Int) < (n:Int):=by omega
      obtain ⟨b,o,rfl,hbl,hcell⟩:=(hB.below hb (by omega)).here (by omega)
      obtain ⟨c0,c1⟩:=hcell i hlt
      clear hcell
      have nV:(wr.alloc (.cells #[strV (f i).k,(f i).d] 42)).rowIs wr.heap.size 42 2 (fun j=>if j=0 then strV (f i).k else (f i).d):=
        World.rowIs_alloc wr #[strV (f i).k,(f i).d] 42 _ (fun i hi=>by
          have:i=0∨i=1:=by simp at hi;omega
          rcases this with rfl | rfl <;> rfl)
      have H1:HA (h+1) h i f' v (wr.alloc (.cells #[strV (f i).k,(f i).d] 42)):=⟨H.var.alloc _,H.own.alloc _,H.low⟩
      have b1:=hb.alloc (by omega) (.cells #[strV (f i).k,(f i).d] 42)
      have s1:h+1≤(wr.alloc (.cells #[strV (f i).k,(f i).d] 42)).heap.size:=by simp;omega
      have e0:=nV.cell (i:=0) (by omega)
      have e1:=nV.cell (i:=1) (by omega)
      simp only [if_true,Nat.one_ne_zero,if_false] at e0 e1
      by_cases hfit:Fits (f i).k
      · have kn:=nameFits_yes (f i).k hfit
        have kp:=push_any (h+1) h i f' v (f i) _ H1 s1 (by omega) hp
        have hR2:Rearr (i+1) f (fun x=>if x=i then f i else f' x):=hR.snoc (fun _ _=>rfl) (fun x hx=>by rw [if_neg (by omega)]) (by rw [if_pos rfl])
        clear H1 H hb nV
        generalize hw1:wr.alloc (.cells #[strV (f i).k,(f i).d] 42)=w1 at *
        simp only [strV,Ent.d] at *
        go_wp2_with (first
          | (go_at_call 30;(with_reducible refine (kn _).mono ?_);rintro r w' ⟨rfl,hw'⟩;obtain rfl:=hw'.symm)
          | (go_at_call 31;(with_reducible refine kp.mono ?_);rintro r w2 ⟨rfl,f2,v2,H2,hR3,hp2,hb2,hs2⟩))
        go_roundw
        case rel=>exact ⟨i+1,f2,v2,by omega,by go_num,H2,hR2.trans hR3,hp2,b1.trans hb2,hs2,fun j hj=>by
          by_cases e:j=i
          · rw [e];exact hfit
          · exact hf j (by omega)⟩
        case measure=>simp [intOf];omega
      · have kn:=nameFits_no (f i).k hfit (hk i hlt)
        have bad:¬ NamesFit n f:=fun hN=>hfit (hN.1 i hlt)
        clear H1 H hb nV
        generalize hw1:wr.alloc (.cells #[strV (f i).k,(f i).d] 42)=w1 at *
        simp only [strV,Ent.d] at c0 c1 e0 e1 hw1
        go_wp2_with (first
          | (go_at_call 30;(with_reducible refine (kn _).mono ?_);rintro r w' ⟨rfl,hw'⟩;obtain rfl:=hw'.symm))
        go_ret2
        exact ⟨by rw [hh];exact b1,.inl ⟨bad,rfl⟩⟩
    · obtain rfl:i=n:=by omega
      have hnl:¬ ((i:Int) < (i:Int)):=by omega
      have mk:=make_blobs i hn wr
      have own0:=owns_new wr i (h+1) hs hn
      have H1:HA (h+1) h i f' v (wr.alloc (.cells (madeCells #[.string ⟨#[]⟩,.slice none 0 0] (i*2)) 42)):=⟨H.var.alloc _,H.own.alloc _,H.low⟩
      have b1:=hb.alloc (by omega) (.cells (madeCells #[.string ⟨#[]⟩,.slice none 0 0] (i*2)) 42)
      have s1:h+1≤(wr.alloc (.cells (madeCells #[.string ⟨#[]⟩,.slice none 0 0] (i*2)) 42)).heap.size:=by simp;omega
      clear H hb hs
      go_wp2
      generalize wr.alloc (.cells (madeCells #[.string ⟨#[]⟩,.slice none 0 0] (i*2)) 42)=w1 at *
      go_loopw [7,8] (fun vs _ wq=>∃ (m:Nat) (out fh:Nat→Ent) (v:Value),m≤i∧HA (h+1) h (i - m) fh v wq∧Hp fh (i - m)∧Rearr i f (fun x=>if x < m then out x else fh (x - m))∧(∀ x,x+1 < m→Hp.lt (out x).k (out (x+1)).k=true)∧(∀ x,x < i - m→0 < m→Hp.le (out (m - 1)).k (fh x).k)∧wq.ownsRow (h+1) 42 2 vs m (blobL m out)∧Below h w wq∧h+1≤wq.heap.size) (fun vs _ _=>match vs with | .slice _ m _=>i - m | _=>0)
      case atStart=>exact ⟨0,f',f',v,by omega,H1,hp,hR.congr fun x _=>by rw [if_neg (by omega),Nat.sub_zero],fun x hx=>absurd hx (by omega),fun x _ h0=>absurd h0 (by omega),own0,b1,s1⟩
      case round=>
        clear H1 own0 b1 s1 mk hp hR
        obtain ⟨m,out,fh,v,hm,H,hp,hR,hsrt,hle,hown,hb,hs⟩:=hrel
        have kl:=len_any (h+1) h (i - m) fh v _ H
        obtain ⟨bs,cs,rfl⟩:∃ bs cs,u7 = .slice bs m cs:=by
          rcases hown.2 with ⟨rfl,rfl⟩ | ⟨g,cap,_,rfl,_⟩ <;> exact ⟨_,_,rfl⟩
        by_cases hmn:m < i
        · obtain ⟨k,hk'⟩:∃ k,i - m=k+1:=⟨i - m - 1,by omega⟩
          rw [hk'] at H hp kl hle
          have hgt:(0:Int) < (k:Int)+1:=by omega
          have kp:=pop_any (h+1) h k fh v _ H hs (by omega) hp
          have hR':=hR.trans ((Rearr.popped (k:=k) (o:=out) (g:=fh) (show m+(k+1)=i by omega)))
          have hp0:=hp
          rcases Nat.eq_zero_or_pos m with h0 | h0
          · have hd:decide ((0:Int) < (m:Int))=false:=by rw [h0];rfl
            have hd2:decide (0 < m)=false:=by rw [h0];rfl
            replace h0:m < 1:=by omega
            go_wp2_with (first
              | (go_at_call 32;(with_reducible refine kl.mono ?_);rintro r w' ⟨rfl,hw'⟩;obtain rfl:=hw'.symm)
              | (go_at_call 33;(with_reducible refine kp.mono ?_);rintro r w2 ⟨rfl,f2,v2,H2,hR2,hp2,hb2,hs2,hfr⟩;have o2:=keep_blobs hown H.own hfr;simp only [strV,Ent.d];obtain ⟨nb,nc⟩:=new_blob w2 (fh 0);have o3:=o2.alloc (.cells #[.string ⟨(fh 0).k.toArray⟩,.slice (fh 0).a (fh 0).l (fh 0).c] 42);have H3:HA (h+1) h k f2 v2 (w2.alloc (.cells #[.string ⟨(fh 0).k.toArray⟩,.slice (fh 0).a (fh 0).l (fh 0).c] 42)):=⟨H2.var.alloc _,H2.own.alloc _,H2.low⟩;have b3:=(hb.trans hb2).alloc (by omega) (.cells #[.string ⟨(fh 0).k.toArray⟩,.slice (fh 0).a (fh 0).l (fh 0).c] 42);have s3:h+1≤(w2.alloc (.cells #[.string ⟨(fh 0).k.toArray⟩,.slice (fh 0).a (fh 0).l (fh 0).c] 42)).heap.size:=(by simp;omega);clear kp kl H hown hp hfr H2 o2))
            go_wp2
            go_quiet (fail)
            generalize hW:w2.alloc (.cells #[.string ⟨(fh 0).k.toArray⟩,.slice (fh 0).a (fh 0).l (fh 0).c] 42)=W at *
            replace nb:(W.drewN nq).cell? ⟨w2.heap.size,0,none⟩=some (.string ⟨(fh 0).k.toArray⟩):=nb
            replace nc:(W.drewN nq).cell? ⟨w2.heap.size,1,none⟩=some (.slice (fh 0).a (fh 0).l (fh 0).c):=nc
            have H4:=H3.drew nq
            have b4:=below_drewN b3 nq
            replace o3:(W.drewN nq).ownsRow (h+1) 42 2 (.slice bs m cs) m (blobL m out):=o3
            replace s3:h+1≤(W.drewN nq).heap.size:=s3
            generalize W.drewN nq=W4 at *
            clear hW H3 b3
            clear W
            go_wp2_with (at_builtin;refine wpList_append_own _ rfl _ _ 26 rfl (h+1) 42 i0 (.agg #[.string ⟨#[]⟩,.slice none 0 0]) 2 40 Tryz.underlying26 hi0 hz0 hz1 hz2 rfl (by decide) _ _ _ rfl (o3.alloc _) ⟨W4.heap.size,0,none⟩ 1 1 (blobC (fh 0)) rfl rfl (cell_two_new _ _ _ _) (blobC_one _) (by unfold maxLen;omega) (by omega) (by simp;omega) ?_;intro v' w5 hown5 hgrow _;obtain ⟨gq,cq,rfl,_,_⟩:=hown5.form (by omega))
            go_roundw
            case rel=>exact ⟨m+1,fun x=>if x=m then fh 0 else out x,f2,v2,next_inv hk' hp0 hR' hsrt hle (fun h=>absurd h (by omega)) hR2 hp2 H4 b4 s3 o3 ((Below.refl _ _).alloc (Nat.le_refl _) _) hgrow hown5⟩
            case measure=>simp;omega
          · have hd:(0:Int) < (m:Int):=by omega
            have hi1:0≤(m:Int) - 1:=by omega
            have hi2:(m:Int) - 1 < (m:Int):=by omega
            obtain ⟨gs,rfl,hgs⟩:∃ gs,bs=some ⟨gs,0,none⟩∧h+1≤gs:=by
              rcases hown.2 with ⟨_,h1⟩ | ⟨g,cap,_,h1,h2,_⟩
              · omega
              · cases h1;exact ⟨_,rfl,h2⟩
            by_cases hne:(out (m - 1)).k=(fh 0).k
            · have hbad:¬ NamesFit i f:=fun hN=>dup_not hR' (i:=m - 1) (j:=m) (by omega) (by omega) (by omega) (by rw [if_pos (by omega),if_neg (by omega),if_pos (by omega),if_pos rfl];exact hne) hN.2
              go_wp2_with (first
                | (go_at_call 32;(with_reducible refine kl.mono ?_);rintro r w' ⟨rfl,hw'⟩;obtain rfl:=hw'.symm)
                | (go_at_call 33;(with_reducible refine kp.mono ?_);rintro r w2 ⟨rfl,f2,v2,H2,hR2,hp2,hb2,hs2,hfr⟩;have o2:=keep_blobs hown H.own hfr;simp only [strV,Ent.d];obtain ⟨nb,nc⟩:=new_blob w2 (fh 0);have o3:=o2.alloc (.cells #[.string ⟨(fh 0).k.toArray⟩,.slice (fh 0).a (fh 0).l (fh 0).c] 42);have H3:HA (h+1) h k f2 v2 (w2.alloc (.cells #[.string ⟨(fh 0).k.toArray⟩,.slice (fh 0).a (fh 0).l (fh 0).c] 42)):=⟨H2.var.alloc _,H2.own.alloc _,H2.low⟩;have b3:=(hb.trans hb2).alloc (by omega) (.cells #[.string ⟨(fh 0).k.toArray⟩,.slice (fh 0).a (fh 0).l (fh 0).c] 42);have s3:h+1≤(w2.alloc (.cells #[.string ⟨(fh 0).k.toArray⟩,.slice (fh 0).a (fh 0).l (fh 0).c] 42)).heap.size:=(by simp;omega);have l0:=o3.cellAt ((m - 1)*2) (by omega);rw [show (blobL m out)[(m - 1)*2]? = some (.string ⟨(out (m - 1)).k.toArray⟩) from (blobL_get m out (m - 1) 0 (by omega) (by omega))] at l0;clear kp kl H hown hp hfr H2 o2))
              simp only [hne] at l0
              go_wp2
              go_quiet (fail)
              go_wp2
              go_ret2
              exact ⟨by rw [hh];exact below_drewN b3 _,.inl ⟨hbad,rfl⟩⟩
            · have hne':((out (m - 1)).k == (fh 0).k)=false:=beq_eq_false_iff_ne.2 hne
              go_wp2_with (first
                | (go_at_call 32;(with_reducible refine kl.mono ?_);rintro r w' ⟨rfl,hw'⟩;obtain rfl:=hw'.symm)
                | (go_at_call 33;(with_reducible refine kp.mono ?_);rintro r w2 ⟨rfl,f2,v2,H2,hR2,hp2,hb2,hs2,hfr⟩;have o2:=keep_blobs hown H.own hfr;simp only [strV,Ent.d];obtain ⟨nb,nc⟩:=new_blob w2 (fh 0);have o3:=o2.alloc (.cells #[.string ⟨(fh 0).k.toArray⟩,.slice (fh 0).a (fh 0).l (fh 0).c] 42);have H3:HA (h+1) h k f2 v2 (w2.alloc (.cells #[.string ⟨(fh 0).k.toArray⟩,.slice (fh 0).a (fh 0).l (fh 0).c] 42)):=⟨H2.var.alloc _,H2.own.alloc _,H2.low⟩;have b3:=(hb.trans hb2).alloc (by omega) (.cells #[.string ⟨(fh 0).k.toArray⟩,.slice (fh 0).a (fh 0).l (fh 0).c] 42);have s3:h+1≤(w2.alloc (.cells #[.string ⟨(fh 0).k.toArray⟩,.slice (fh 0).a (fh 0).l (fh 0).c] 42)).heap.size:=(by simp;omega);have l0:=o3.cellAt ((m - 1)*2) (by omega);rw [show (blobL m out)[(m - 1)*2]? = some (.string ⟨(out (m - 1)).k.toArray⟩) from (blobL_get m out (m - 1) 0 (by omega) (by omega))] at l0;clear kp kl H hown hp hfr H2 o2))
              go_wp2
              go_quiet (fail)
              generalize hW:w2.alloc (.cells #[.string ⟨(fh 0).k.toArray⟩,.slice (fh 0).a (fh 0).l (fh 0).c] 42)=W at *
              replace nb:(W.drewN nq).cell? ⟨w2.heap.size,0,none⟩=some (.string ⟨(fh 0).k.toArray⟩):=nb
              replace nc:(W.drewN nq).cell? ⟨w2.heap.size,1,none⟩=some (.slice (fh 0).a (fh 0).l (fh 0).c):=nc
              have H4:=H3.drew nq
              have b4:=below_drewN b3 nq
              replace o3:(W.drewN nq).ownsRow (h+1) 42 2 (.slice (some ⟨gs,0,none⟩) m cs) m (blobL m out):=o3
              replace s3:h+1≤(W.drewN nq).heap.size:=s3
              generalize W.drewN nq=W4 at *
              clear hW H3 b3 l0
              clear W
              go_wp2_with (at_builtin;refine wpList_append_own _ rfl _ _ 26 rfl (h+1) 42 i0 (.agg #[.string ⟨#[]⟩,.slice none 0 0]) 2 40 Tryz.underlying26 hi0 hz0 hz1 hz2 rfl (by decide) _ _ _ rfl (o3.alloc _) ⟨W4.heap.size,0,none⟩ 1 1 (blobC (fh 0)) rfl rfl (cell_two_new _ _ _ _) (blobC_one _) (by unfold maxLen;omega) (by omega) (by simp;omega) ?_;intro v' w5 hown5 hgrow _;obtain ⟨gq,cq,rfl,_,_⟩:=hown5.form (by omega))
              go_roundw
              case rel=>exact ⟨m+1,fun x=>if x=m then fh 0 else out x,f2,v2,next_inv hk' hp0 hR' hsrt hle (fun _=>hne) hR2 hp2 H4 b4 s3 o3 ((Below.refl _ _).alloc (Nat.le_refl _) _) hgrow hown5⟩
              case measure=>simp;omega
        · obtain rfl:m=i:=by omega
          rw [Nat.sub_self] at kl
          rw [show ((0:Nat):Int)=0 from rfl] at kl
          have hfin:Rearr m f out:=hR.congr fun x hx=>by rw [if_pos hx]
          have hN:NamesFit m f:=⟨hf,apart_of hfin hsrt⟩
          clear hp hle hR H
          go_wp2_with (first | (go_at_call 32;(with_reducible refine kl.mono ?_);rintro r w' ⟨rfl,hw'⟩;obtain rfl:=hw'.symm))
          go_ret2
          exact ⟨by rw [hh];exact hb,.inr ⟨hN,out,_,rfl,hfin,hsrt,by rw [hh];exact hown.mono (by omega)⟩⟩
end Go.Proofs.YtkpcmfgeanlcnabGreatDoor
namespace Go.Proofs.YtkpcmfgeanlcnabGreatDoor
open Go.RowKit Go.Deep
def OwnB (B:Nat) (w:World) (v:Value) (l:List UInt8):Prop:=w.ownsRow B 5 1 v l.length (u8V l)
theorem OwnB.of {B n:Nat} {w:World} {v:Value} {l:List UInt8} (h:w.ownsRow B 5 1 v n (u8V l)):OwnB B w v l:=by
  have:n=l.length:=by have:=h.1;rw [u8V_length] at this;omega
  subst this;exact h
theorem OwnB.alloc {B:Nat} {w:World} {v:Value} {l:List UInt8} (h:OwnB B w v l) (o:Obj):OwnB B (w.alloc o) v l:=World.ownsRow.alloc h o
def noBytes:Obj→Bool
  | .cells _ t _=>t != 5
  | _=>true
structure KeepT (w w':World):Prop where
  size:w.heap.size≤w'.heap.size
  same:∀ (k:Nat) (o:Obj),w.heap[k]? = some o→noBytes o=true→w'.heap[k]? = some o
theorem KeepT.refl (w:World):KeepT w w:=⟨Nat.le_refl _,fun _ _ h _=>h⟩
theorem KeepT.trans {a b c:World} (h:KeepT a b) (k:KeepT b c):KeepT a c:=⟨Nat.le_trans h.size k.size,fun i o hh ht=>k.same i o (h.same i o hh ht) ht⟩
theorem KeepT.alloc {a w:World} (h:KeepT a w) (o:Obj):KeepT a (w.alloc o):=h.trans ⟨by simp,fun k o' hh _=>by
  have hk:k < w.heap.size:=(Array.getElem?_eq_some_iff.1 hh).1
  exact (Below.heap_alloc w o k hk).trans hh⟩
theorem OwnB.keeps {B:Nat} {w w':World} {v:Value} {l:List UInt8} (h:OwnB B w v l) (hg:w.grownBy w' v.ownBlock):KeepT w w':=⟨hg.size,fun k o hh ht=>by
  have hk:k < w.heap.size:=(Array.getElem?_eq_some_iff.1 hh).1
  rw [hg.block k hk ?_]
  · exact hh
  · intro e
    rcases h.2 with ⟨rfl,_⟩ | ⟨g,cap,cur,rfl,_,hb,_⟩
    · cases e
    · cases e
      rw [hb] at hh
      cases hh
      simp [noBytes] at ht⟩
theorem RowAt.keep {w w':World} {b:Nat} {cs:List Value} {t:TypeId} (h:RowAt w b cs t) (hk:KeepT w w') (ht:t≠5):RowAt w' b cs t:=hk.same b _ h (by simpa [noBytes] using ht)
def Gives (B:Nat) (w:World) (l:List UInt8) (r:Ending) (w':World):Prop:=∃ v,r = .returned v∧OwnB B w' v l∧Below B w w' ∧ KeepT w w'
set_option maxHeartbeats 1600000 in
set_option maxRecDepth 100000 in
theorem appNum_any (X N:Int) (x n:Nat) (hX:X=x) (hx:x < 2 ^ 64) (hN:N=n) (hn:n≤8) (B:Nat) (v0:Value) (l:List UInt8) (hl:l.length < 2 ^ 40) (w:World) (h0:OwnB B w v0 l) (hB:B≤w.heap.size) :
    Calls Tryz.prog 51 #[v0,.int .u64 X,.int .i64 N] w fun r w'=>Gives B w (l++leB n x) r w':=by
  subst hX hN
  obtain ⟨i0,hi0,hz0,hz1,hz2⟩:=info_parts infoB8
  go_enter Tryz.func51,Tryz.ntmps51
  go_wp2
  go_loopw [0,1,8] (fun v vv vi wr=>∃ c:Nat,c≤n∧vv = .int .u64 ((x / 256 ^ c:Nat):Int)∧vi = .int .i64 (c:Int)∧wr.ownsRow B 5 1 v (l.length+c) (u8V (l++leB c x))∧Below B w wr∧KeepT w wr) (fun _ _ i _=>n - (intOf i).toNat)
  case atStart=>exact ⟨0,by omega,by simp,rfl,by have:=h0;unfold OwnB at this;simpa [leB] using this,Below.refl _ _,KeepT.refl _⟩
  case round=>
    obtain ⟨c,hc,rfl,rfl,hown,hbel,hkt⟩:=hrel
    clear h0
    have hsz:=hbel.size
    by_cases hlt:c < n
    · obtain ⟨y,ey⟩:∃ y,x / 256 ^ c=y:=⟨_,rfl⟩
      have hy:y < 2 ^ 64:=by rw [← ey];exact Nat.lt_of_le_of_lt (Nat.div_le_self _ _) hx
      have EQ:Hid (u8V (l++leB c x)++[.int .u8 ((y % 256:Nat):Int)]=u8V (l++leB (c+1) x)):=u8V_snoc _ (y % 256) (by omega) _ (by rw [leB_snoc,ey,List.append_assoc])
      have DV:Hid (y / 256=x / 256 ^ (c+1)):=by rw [← ey,Nat.div_div_eq_div_mul,Nat.pow_succ];exact rfl
      rw [ey]
      clear ey hx
      go_wp2_with (at_builtin;refine wpList_append_own _ rfl _ _ 33 rfl B 5 i0 (.int .u8 0) 1 1 Tryz.underlying33 hi0 hz0 hz1 hz2 rfl (by decide) _ _ _ rfl (hown.alloc _) ⟨wr.heap.size,0,none⟩ 1 1 [.int .u8 ((y % 256:Nat):Int)] rfl rfl (cell_one_new _ _ _) (one_u8' _) (by unfold maxLen;omega) (by omega) (by simp;omega) ?_;intro v2 w2 hown2 hgrow _)
      have hb2:=(hbel.alloc (by omega) (.cells #[Value.int .u8 ((y % 256:Nat):Int)] 5)).grown hgrow (by simp;omega) (fun k hk=>(hown.lt k hk).1)
      have hk2:KeepT w w2:=(hkt.alloc _).trans (OwnB.keeps (OwnB.of (hown.alloc _)) hgrow)
      clear hgrow
      go_wp2
      go_roundw
      case rel=>exact ⟨c+1,by omega,by rw [← DV.out];go_num,by go_num,by rw [← EQ.out];exact hown2,hb2,hk2⟩
      case measure=>simp [intOf];omega
    · have e:c=n:=by omega
      subst e
      go_wp2
      go_ret
      exact ⟨_,rfl,OwnB.of hown,hbel,hkt⟩
def Tab (w:World):Prop:=2 < w.heap.size∧∀ i,i < 16→w.cell? ⟨2,i,none⟩=some (.int .u64 ((crcTab.getD i 0:Nat):Int))
theorem Tab.below {w w':World} {B:Nat} (h:Tab w) (hb:Below B w w') (hB:2 < B):Tab w':=
  ⟨Nat.lt_of_lt_of_le h.1 hb.size,fun i hi=>(hb.cell (p:=⟨2,i,none⟩) hB).trans (h.2 i hi)⟩
theorem Tab.heap {w w':World} (h:Tab w) (hh:w'.heap=w.heap):Tab w':=by
  refine ⟨by rw [hh];exact h.1,fun i hi => ?_⟩
  have:=h.2 i hi
  unfold World.cell? at *
  rw [hh];exact this
theorem sumOf_any (bb bo cap:Nat) (l:List UInt8) (hl:l.length < 2 ^ 60) (w:World) (hb:Byt w bb bo l) (ht:Tab w) :
    Calls Tryz.prog 72 #[.slice (some ⟨bb,bo,none⟩) l.length cap] w fun e w'=>e = .returned (.int .u64 (sumOf l:Nat))∧w' = w:=
  sum_row bb bo l.length cap (l.map UInt8.toNat) (by simp) (fun i _=>by rw [map_getD];exact bAt_lt l i) (by omega) w (fun i hi=>by rw [map_getD];exact hb i hi) ht.2
set_option maxHeartbeats 1600000 in
set_option maxRecDepth 100000 in
theorem appSum_any (B:Nat) (v0:Value) (l:List UInt8) (hl:l.length < 2 ^ 40) (w:World) (h0:OwnB B w v0 l) (hB:B≤w.heap.size) (bb bo cap:Nat) (p:List UInt8) (hp:p.length < 2 ^ 60) (hb:Byt w bb bo p) (ht:Tab w) :
    Calls Tryz.prog 49 #[v0,.slice (some ⟨bb,bo,none⟩) p.length cap] w fun r w'=>Gives B w (l++leB 8 (sumOf p)) r w':=by
  have K1:=sumOf_any bb bo cap p hp w hb ht
  have hs:=sumOf_lt p
  obtain ⟨s,es⟩:∃ s,sumOf p=s:=⟨_,rfl⟩
  rw [es] at K1 hs ⊢
  have K2:=appNum_any (s:Int) 8 s 8 rfl hs rfl (by omega) B v0 l hl w h0 hB
  clear h0 hb ht es
  go_enter Tryz.func49,Tryz.ntmps49
  go_wp2_with (first | (go_at_call 72;refine K1.mono ?_;rintro r w' ⟨rfl,hw'⟩;obtain rfl:=hw'.symm) | (go_at_call 51;refine K2.mono ?_;rintro r w' ⟨v,rfl,h1,h2,h3⟩))
  go_ret
  exact ⟨_,rfl,h1,h2,h3⟩
theorem appSum_self (B:Nat) (v0:Value) (l:List UInt8) (hl:l.length < 2 ^ 40) (hp:0 < l.length) (w:World) (h0:OwnB B w v0 l) (hB:B≤w.heap.size) (ht:Tab w) :
    Calls Tryz.prog 49 #[v0,v0] w fun r w'=>Gives B w (sealB l) r w':=by
  obtain ⟨g,c,e,_,_,_,_,hb⟩:=owns_byt h0 hp
  have K:=appSum_any B v0 l hl w h0 hB g 0 c l (by omega) hb ht
  rw [← e] at K
  exact K
theorem u8V_append (a b:List UInt8):u8V (a++b)=u8V a++u8V b:=by simp [u8V]
theorem OwnB.lt {B:Nat} {w:World} {v:Value} {l:List UInt8} (h:OwnB B w v l) (k:Nat) (hk:v.ownBlock=some k):B≤k:=(World.ownsRow.lt h k hk).1
theorem OwnB.more {B n m:Nat} {w:World} {v:Value} {l k:List UInt8} {xs:List Value} (h:w.ownsRow B 5 1 v (n+m) (u8V l++xs)) (e:xs=u8V k):OwnB B w v (l++k):=by
  subst e
  rw [← u8V_append] at h
  exact OwnB.of h
theorem OwnB.grown {B:Nat} {w w':World} {v:Value} {l:List UInt8} (h:OwnB B w v l) (hg:w.grownBy w' v.ownBlock) (hB:B≤w.heap.size):Below B w w':=
  (Below.refl B w).grown hg hB (fun k hk=>h.lt k hk)
theorem manTo_len (ns:List (List UInt8)) (zs:List Int) (i:Nat):(manTo ns zs i).length=manNto ns i:=manTo_length ns zs i
set_option maxHeartbeats 1000000 in
set_option maxRecDepth 100000 in
theorem manifest_any (vN vS:Value) (ns:List (List UInt8)) (zs:List Int) (hok:ListOk ns zs) (hn:ns.length≤1000) (ht:tot zs≤65536) (w:World) (h1:Lies w vN (nameV ns)) (h2:Lies w vS (intV zs)) (hT:Tab w) :
    Calls Tryz.prog 26 #[vN,vS] w fun r w'=>∃ v,r = .returned v∧OwnB w.heap.size w' v (sealB (manTo ns zs ns.length))∧Below w.heap.size w w':=by
  have K0:=manSize_any vN ns hn hok.2.1 w h1
  obtain ⟨i0,hi0,hz0,hz1,hz2⟩:=info_parts infoB8
  obtain ⟨m,em⟩:∃ m,manN ns=m:=⟨_,rfl⟩
  rw [em] at K0
  have hm:m≤1000000:=by
    have:=manNto_le ns hok.2.1 ns.length (Nat.le_refl _)
    rw [manNto_all,em] at this
    omega
  obtain ⟨w0,hmk,ho0,hg0⟩:=run_make_own (P:=Tryz.prog) w w.heap.size 33 5 i0 (.int .u8 0) 1 Tryz.underlying33 hi0 hz0 hz1 .i64 .i64 (m+8) (by rw [hz2];omega) (by unfold maxLen;omega) (Nat.le_refl _)
  rw [show ((m+8:Nat):Int)=(m:Int)+8 by omega] at hmk
  have hb0:Below w.heap.size w w0:=(Below.refl _ _).grown hg0 (Nat.le_refl _) (fun k hk=>by cases hk)
  have hO0:OwnB w.heap.size w0 (.slice (some ⟨w.heap.size,0,none⟩) 0 (m+8)) []:=OwnB.of ho0
  have K1:=appNum_any (ns.length:Int) 4 ns.length 4 rfl (by omega) rfl (by omega) w.heap.size _ [] (by simp) w0 hO0 hb0.size
  obtain ⟨ba,cap,rfl,hcap,hc⟩:=id h1
  obtain ⟨bz,capz,rfl,hcapz,hcz⟩:=id h2
  rw [nameV_length] at hcap K0 ⊢
  rw [intV_length] at hcapz ⊢
  have hlen:Hid (ns.length=zs.length):=hok.1
  have HK:Hid (ListOk ns zs):=hok
  clear ho0 hg0 em h1 h2 hok
  go_enter Tryz.func26,Tryz.ntmps26
  go_wp2_with (first | (go_at_call 50;refine K0.mono ?_;rintro r w' ⟨rfl,hw'⟩;obtain rfl:=hw'.symm) | (go_at_call 51;refine K1.mono ?_;rintro r w1 ⟨v1,rfl,hO1,hb1,hk1⟩))
  have hB1:Below w.heap.size w w1:=hb0.trans hb1
  clear K0 K1 hmk hO0 hb0 hb1
  rw [List.nil_append] at hO1
  go_loopw [5,6,7,19] (fun v _ _ vi wr=>∃ c:Nat,c≤ns.length∧vi = .int .i64 (c:Int)∧OwnB w.heap.size wr v (manTo ns zs c)∧Below w.heap.size w wr) (fun _ _ _ i _=>ns.length - (intOf i).toNat)
  case atStart=>exact ⟨0,by omega,rfl,by simpa [manTo] using hO1,hB1⟩
  case round=>
    obtain ⟨c,hcl,rfl,hown,hbel⟩:=hrel
    clear hO1 hB1
    have hsz:=hbel.size
    by_cases hlt:c < ns.length
    · obtain ⟨b,off,rfl,hcell⟩:=hc c _ (nameV_at hlt)
      obtain ⟨b2,off2,rfl,hcell2⟩:=hcz c _ (intV_at (by have:=hlen.out;omega))
      have hl1:(manTo ns zs c).length≤1000000:=by
        have:=manNto_le ns HK.out.2.1 c (by omega)
        rw [manTo_len];omega
      have hsc:=(HK.out.2.1 c hlt).1
      have hzc:=HK.out.2.2 c (by have:=hlen.out;omega)
      have hz3:(zs.getD c 0).toNat≤65536:=by
        have:=totTo_le zs (i:=c+1) (by have:=hlen.out;omega)
        rw [totTo_succ] at this
        omega
      have MS:Hid _:=manTo_succ ns zs c
      obtain ⟨s,es⟩:∃ s,ns.getD c []=s:=⟨_,rfl⟩
      obtain ⟨z,ez⟩:∃ z:Nat,zs.getD c 0=(z:Int):=⟨(zs.getD c 0).toNat,by omega⟩
      obtain ⟨M,eM⟩:∃ M,manTo ns zs c=M:=⟨_,rfl⟩
      rw [es] at hcell hsc MS
      rw [ez] at hcell2 hz3 MS
      rw [eM] at hl1 MS hown
      rw [Int.toNat_natCast] at hz3 MS
      have hcw:=(hbel.cell (p:=⟨b,off+c,none⟩) (cell_lt hcell)).trans hcell
      have hcz2:∀ w',Below w.heap.size wr w' → w'.cell? ⟨b2,off2+c,none⟩=some (.int .i64 (z:Int)):=fun w' hb=>(hb.cell (p:=⟨b2,off2+c,none⟩) (cell_lt hcell2)).trans ((hbel.cell (p:=⟨b2,off2+c,none⟩) (cell_lt hcell2)).trans hcell2)
      have hbs:=ba_size s
      have K1:=appNum_any (s.length:Int) 2 s.length 2 rfl (by omega) rfl (by omega) w.heap.size _ M (by omega) wr hown hbel.size
      have hlb:(c:Int) < (zs.length:Int):=by have:=hlen.out;omega
      clear es ez eM hcell hcell2 hzc hc hcz ht
      go_wp2_with (first
        | (go_at_call 51;refine K1.mono ?_;clear K1;rintro r w2 ⟨v2,rfl,hO2,hb2,hk2⟩;have hs2:=hb2.size)
        | (at_builtin;refine Lib.wpList_append_own_string _ rfl _ _ 33 9 rfl w.heap.size 5 i0 Tryz.underlying33 Tryz.underlying9 hi0 hz0 hz1 hz2 _ _ _ rfl hO2 ⟨s.toArray⟩ rfl (by rw [hbs];simp [leB_length];unfold maxLen;omega) (by rw [hbs];simp [leB_length];omega) (by omega) ?_;intro v3 w3 hown3 hgrow3 _;have hO3:OwnB w.heap.size w3 v3 (M++leB 2 s.length++s):=OwnB.more hown3 (strCells_u8V s);have hb3:Below w.heap.size wr w3:=hb2.trans (hO2.grown hgrow3 (by omega));have hc3:=hcz2 _ hb3;have hs3:=hb3.size;have K2:=appNum_any (z:Int) 4 z 4 rfl (by omega) rfl (by omega) w.heap.size _ (M++leB 2 s.length++s) (by simp [leB_length];omega) w3 hO3 (by omega);clear hown3 hgrow3 hO3)
        | (go_at_call 51;refine K2.mono ?_;clear K2;rintro r w4 ⟨v4,rfl,hO4,hb4,hk4⟩))
      go_roundw
      case rel=>exact ⟨c+1,by omega,by go_num,by rw [MS.out];exact hO4,hbel.trans (hb3.trans hb4)⟩
      case measure=>simp [intOf];omega
    · obtain rfl:c=ns.length:=by omega
      have hl1:(manTo ns zs ns.length).length≤1000000:=by
        have:=manNto_le ns HK.out.2.1 ns.length (by omega)
        rw [manTo_len];omega
      have hl0:0 < (manTo ns zs ns.length).length:=by rw [manTo_len];unfold manNto;omega
      have K3:=appSum_self w.heap.size _ (manTo ns zs ns.length) (by omega) hl0 wr hown hbel.size (hT.below hbel hT.1)
      clear hc hcz hl1 hl0
      go_wp2_with (first | (go_at_call 49;refine K3.mono ?_;rintro r w2 ⟨v2,rfl,hO2,hb2,hk2⟩))
      go_ret
      exact ⟨_,rfl,hO2,hbel.trans hb2⟩
end Go.Proofs.YtkpcmfgeanlcnabGreatDoor

/-
  Which numbers of parts may be; what Rows answers.
-/
import Derived.Test.YtkpcmfgeanlcnabGreatDoorSame
import Derived.Laws.Rows
import Derived.KernelRfl
import Derived.Laws.OwnMore
import Derived.Deep.AppendLies
import Derived.Test.YtkpcmfgeanlcnabGreatDoorProg
namespace Go.Proofs.YtkpcmfgeanlcnabGreatDoor
open Go.RowKit Go.Deep
def pickZ (c:Int):Int:=if c < 0 then -(c+1) else c
def pickN (c:Int) (n:Nat):Nat:=(pickZ c).toNat % n
theorem pickN_lt (c:Int) {n:Nat} (h:0 < n):pickN c n < n:=Nat.mod_lt _ h
set_option maxHeartbeats 400000 in
set_option maxRecDepth 100000 in
theorem pick_any (c:Int) (n:Nat) (z:Int) (hz:z=(n:Int)) (h0 : -9223372036854775808≤c) (h1:c < 9223372036854775808) (hn:0 < n) (hn2:n < 9223372036854775808) (w:World) :
    Calls Tryz.prog 10 #[.int .i64 c,.int .i64 z] w fun e w'=>e = .returned (.int .i64 ((pickN c n:Nat):Int))∧w' = w:=by
  subst hz
  by_cases hc:c < 0
  · obtain ⟨m,hm⟩:∃ m:Nat,c = -((m:Int)+1):=⟨(-(c+1)).toNat,by omega⟩
    have e : -((c+1).tmod n)=((pickN c n:Nat):Int):=by
      have e1:c+1 = -(m:Int):=by omega
      have e2:pickZ c=(m:Int):=by unfold pickZ;rw [if_pos hc];omega
      rw [e1,Int.neg_tmod,Int.neg_neg,pickN,e2]
      rfl
    clear hm
    go_enter Tryz.func10,Tryz.ntmps10
    go_wp2
    go_ret
    exact ⟨by rw [← e];rfl,rfl⟩
  · obtain ⟨m,rfl⟩:∃ m:Nat,c=(m:Int):=⟨c.toNat,by omega⟩
    have e:(m:Int) % n=((pickN m n:Nat):Int):=by
      have e2:pickZ m=(m:Int):=by unfold pickZ;rw [if_neg hc]
      rw [pickN,e2]
      rfl
    go_enter Tryz.func10,Tryz.ntmps10
    go_wp2
    go_ret
    exact ⟨by rw [← e];rfl,rfl⟩
def prm (k n c:Nat):Value:=.agg #[.int .i64 (k:Int),.int .i64 (n:Int),.int .i64 (c:Int)]
def nOf (n:Int):Nat:=1+pickN n 12
def kOf (k n:Int):Nat:=1+pickN k (nOf n)
theorem nOf_le (n:Int):1≤nOf n∧nOf n≤12:=by have:=pickN_lt n (show 0 < 12 by omega);unfold nOf;omega
theorem kOf_le (k n:Int):1≤kOf k n∧kOf k n≤nOf n:=by have:=nOf_le n;have:=pickN_lt k (show 0 < nOf n by omega);unfold kOf;omega
def In64 (c:Int):Prop := -9223372036854775808≤c∧c < 9223372036854775808
structure Ints (w:World) (v:Value) (zs:List Int):Prop where
  in64:∀ z∈zs,In64 z
  lies:(∃ cap bo,zs=[]∧v = .slice bo 0 cap)∨∃ b off cap,v = .slice (some ⟨b,off,none⟩) zs.length cap∧b < w.heap.size∧∀ j z,zs[j]? = some z→w.cell? ⟨b,off+j,none⟩=some (.int .i64 z)
theorem Ints.open {w:World} {v:Value} {zs:List Int} (h:Ints w v zs):∃ bo cap,v = .slice bo zs.length cap∧(0 < zs.length→∃ b off,bo=some ⟨b,off,none⟩∧b < w.heap.size∧∀ j z,zs[j]? = some z→w.cell? ⟨b,off+j,none⟩=some (.int .i64 z)):=by
  rcases h.lies with ⟨cap,bo,rfl,rfl⟩ | ⟨b,off,cap,h1,h2,h3⟩
  · exact ⟨bo,cap,rfl,fun h=>absurd h (by simp)⟩
  · exact ⟨_,cap,h1,fun _=>⟨b,off,rfl,h2,h3⟩⟩
structure Once (n:Nat) (xs:List Nat):Prop where
  len:xs.length=n
  lt:∀ (i x:Nat),xs[i]? = some x→x < n
  inj:∀ (i j x:Nat),xs[i]? = some x→xs[j]? = some x→i=j
end Go.Proofs.YtkpcmfgeanlcnabGreatDoor
namespace Go.Hp
theorem u8_cmp (a b:UInt8):(a < b∧¬ b < a∧a≠b)∨(b < a∧¬ a < b∧a≠b)∨(a=b∧¬ a < b∧¬ b < a):=by
  rcases Nat.lt_trichotomy a.toNat b.toNat with h | h | h
  · refine .inl ⟨UInt8.lt_iff_toNat_lt.2 h,fun h' => ?_,fun e => ?_⟩
    · have:=UInt8.lt_iff_toNat_lt.1 h';omega
    · subst e;omega
  · have e:a=b:=UInt8.toNat_inj.1 h
    subst e
    exact .inr (.inr ⟨rfl,fun h'=>by have:=UInt8.lt_iff_toNat_lt.1 h';omega,fun h'=>by have:=UInt8.lt_iff_toNat_lt.1 h';omega⟩)
  · refine .inr (.inl ⟨UInt8.lt_iff_toNat_lt.2 h,fun h' => ?_,fun e => ?_⟩)
    · have:=UInt8.lt_iff_toNat_lt.1 h';omega
    · subst e;omega
abbrev lt (a b:List UInt8):Bool:=Op.bytesLess a b
theorem lt_irrefl:∀ a:List UInt8,lt a a=false
  | []=>rfl
  | x :: a=>by
    have h:=u8_cmp x x
    simp only [lt,Op.bytesLess] at *
    have:=lt_irrefl a
    simp only [lt] at this
    simp [this]
theorem lt_tri:∀ a b:List UInt8,(lt a b=true∧lt b a=false∧a≠b)∨(lt b a=true∧lt a b=false∧a≠b)∨(a=b∧lt a b=false∧lt b a=false)
  | [],[]=>.inr (.inr ⟨rfl,rfl,rfl⟩)
  | [],y :: b=>.inl ⟨rfl,rfl,by simp⟩
  | x :: a,[]=>.inr (.inl ⟨rfl,rfl,by simp⟩)
  | x :: a,y :: b=>by
    simp only [lt,Op.bytesLess]
    rcases u8_cmp x y with ⟨h1,h2,h3⟩ | ⟨h1,h2,h3⟩ | ⟨rfl,h2,_⟩
    · exact .inl ⟨by simp [h1],by simp [h2,Ne.symm h3],by simp [h3]⟩
    · exact .inr (.inl ⟨by simp [h1],by simp [h2,h3],by simp [h3]⟩)
    · rcases lt_tri a b with ⟨g1,g2,g3⟩ | ⟨g1,g2,g3⟩ | ⟨rfl,g2,g3⟩
      · exact .inl ⟨by simp only [lt] at g1;simp [g1],by simp only [lt] at g2;simp [g2],by simp [g3]⟩
      · exact .inr (.inl ⟨by simp only [lt] at g1;simp [g1],by simp only [lt] at g2;simp [g2],by simp [g3]⟩)
      · exact .inr (.inr ⟨rfl,by simp only [lt] at g2;simp [g2],by simp only [lt] at g2;simp [g2]⟩)
theorem lt_trans:∀ {a b c:List UInt8},lt a b=true→lt b c=true→lt a c=true
  | _,[],_,h,_=>by simp [lt,Op.bytesLess] at h
  | _,_ :: _,[],_,h=>by simp [lt,Op.bytesLess] at h
  | [],_ :: _,_ :: _,_,_=>rfl
  | x :: a,y :: b,z :: c,h1,h2=>by
    simp only [lt,Op.bytesLess,Bool.or_eq_true,decide_eq_true_eq,Bool.and_eq_true,beq_iff_eq] at h1 h2 ⊢
    rcases h1 with h1 | ⟨rfl,h1⟩
    · rcases h2 with h2 | ⟨rfl,h2⟩
      · exact .inl (UInt8.lt_iff_toNat_lt.2 (by have:=UInt8.lt_iff_toNat_lt.1 h1;have:=UInt8.lt_iff_toNat_lt.1 h2;omega))
      · exact .inl h1
    · rcases h2 with h2 | ⟨rfl,h2⟩
      · exact .inl h2
      · exact .inr ⟨rfl,lt_trans (a:=a) (b:=b) (c:=c) h1 h2⟩
def le (a b:List UInt8):Prop:=lt b a=false
theorem le_refl (a:List UInt8):le a a:=lt_irrefl a
theorem le_of_lt {a b:List UInt8} (h:lt a b=true):le a b:=by
  rcases lt_tri a b with ⟨_,h2,_⟩ | ⟨_,h2,_⟩ | ⟨_,h2,_⟩
  · exact h2
  · rw [h] at h2;cases h2
  · rw [h] at h2;cases h2
theorem le_trans {a b c:List UInt8} (h1:le a b) (h2:le b c):le a c:=by
  unfold le at *
  rcases lt_tri a c with ⟨_,h,_⟩ | ⟨h,_,_⟩ | ⟨_,_,h⟩
  · exact h
  · exfalso
    rcases lt_tri a b with ⟨g,_,_⟩ | ⟨g,_,_⟩ | ⟨rfl,_,_⟩
    · have:=lt_trans h g
      rw [h2] at this
      cases this
    · rw [h1] at g;cases g
    · rw [h2] at h;cases h
  · exact h
theorem lt_of_le_ne {a b:List UInt8} (h:le a b) (hn:a≠b):lt a b=true:=by
  rcases lt_tri a b with ⟨g,_,_⟩ | ⟨g,_,_⟩ | ⟨e,_,_⟩
  · exact g
  · unfold le at h;rw [h] at g;cases g
  · exact absurd e hn
theorem notAfter_iff (a b:List UInt8):(Op.bytesLess a b || a == b)=true↔le a b:=by
  rcases lt_tri a b with ⟨g1,g2,_⟩ | ⟨g1,g2,g3⟩ | ⟨rfl,g2,g3⟩
  · simp only [lt] at g1 g2;simp [le,g1,g2]
  · simp only [lt] at g1 g2;simp [le,g1,g2,g3]
  · simp only [lt] at g2;simp [le,g2]
structure Ent where
  k:List UInt8
  a:Option Addr
  l:Nat
  c:Nat
def Ent.d (e:Ent):Value:=.slice e.a e.l e.c
def Rearr (n:Nat) (f g:Nat→Ent):Prop:=∃ σ τ:Nat→Nat,(∀ i,i < n→σ i < n∧τ i < n∧τ (σ i)=i∧σ (τ i)=i)∧∀ i,i < n→g i=f (σ i)
theorem Rearr.refl (n:Nat) (f:Nat→Ent):Rearr n f f:=⟨id,id,fun _ h=>⟨h,h,rfl,rfl⟩,fun _ _=>rfl⟩
theorem Rearr.symm {n:Nat} {f g:Nat→Ent} (a:Rearr n f g):Rearr n g f:=by
  obtain ⟨σ,τ,s,t⟩:=a
  exact ⟨τ,σ,fun i hi=>⟨(s i hi).2.1,(s i hi).1,(s i hi).2.2.2,(s i hi).2.2.1⟩,fun i hi=>by rw [t _ (s i hi).2.1,(s i hi).2.2.2]⟩
theorem Rearr.trans {n:Nat} {f g h:Nat→Ent} (a:Rearr n f g) (b:Rearr n g h):Rearr n f h:=by
  obtain ⟨σ,σ',s1,s2⟩:=a
  obtain ⟨τ,τ',t1,t2⟩:=b
  refine ⟨fun i=>σ (τ i),fun i=>τ' (σ' i),fun i hi => ?_,fun i hi=>by rw [t2 i hi,s2 _ (t1 i hi).1]⟩
  have a1:=t1 i hi
  have a2:=s1 (τ i) a1.1
  have b1:=s1 i hi
  have b2:=t1 (σ' i) b1.2.1
  exact ⟨a2.1,b2.2.1,by show τ' (σ' (σ (τ i)))=i;rw [a2.2.2.1,a1.2.2.1],by show σ (τ (τ' (σ' i)))=i;rw [b2.2.2.2,b1.2.2.2]⟩
theorem Rearr.congr {n:Nat} {f g h:Nat→Ent} (a:Rearr n f g) (b:∀ i,i < n→g i=h i):Rearr n f h:=by
  obtain ⟨σ,τ,s1,s2⟩:=a
  exact ⟨σ,τ,s1,fun i hi=>(b i hi).symm.trans (s2 i hi)⟩
theorem Rearr.from {n:Nat} {f g:Nat→Ent} (a:Rearr n f g) {i:Nat} (hi:i < n):∃ j,j < n∧g i=f j:=by
  obtain ⟨σ,τ,s1,s2⟩:=a
  exact ⟨σ i,(s1 i hi).1,s2 i hi⟩
theorem Rearr.two {n:Nat} {f g:Nat→Ent} (a:Rearr n f g) {i j:Nat} (hi:i < n) (hj:j < n) (hij:i≠j):∃ i' j',i' < n∧j' < n∧i' ≠ j' ∧ g i=f i' ∧ g j=f j':=by
  obtain ⟨σ,τ,s1,s2⟩:=a
  exact ⟨σ i,σ j,(s1 i hi).1,(s1 j hj).1,fun e=>hij (by rw [← (s1 i hi).2.2.1,e,(s1 j hj).2.2.1]),s2 i hi,s2 j hj⟩
def swp (f:Nat→Ent) (i j:Nat):Nat→Ent:=fun x=>if x=i then f j else if x=j then f i else f x
theorem Rearr.swp {n i j:Nat} (f:Nat→Ent) (hi:i < n) (hj:j < n):Rearr n f (swp f i j):=by
  have key:∀ x,x < n→(if x=i then j else if x=j then i else x) < n∧(if (if x=i then j else if x=j then i else x)=i then j else if (if x=i then j else if x=j then i else x)=j then i else (if x=i then j else if x=j then i else x))=x:=fun x hx=>by
    by_cases e1:x=i
    · rw [if_pos e1]
      by_cases e2:j=i
      · rw [if_pos e2];exact ⟨hj,by omega⟩
      · rw [if_neg e2,if_pos rfl];exact ⟨hj,e1.symm⟩
    · rw [if_neg e1]
      by_cases e2:x=j
      · rw [if_pos e2,if_pos rfl];exact ⟨hi,e2.symm⟩
      · rw [if_neg e2,if_neg e1,if_neg e2];exact ⟨hx,rfl⟩
  refine ⟨fun x=>if x=i then j else if x=j then i else x,fun x=>if x=i then j else if x=j then i else x,fun x hx=>⟨(key x hx).1,(key x hx).1,(key x hx).2,(key x hx).2⟩,fun x hx => ?_⟩
  unfold Hp.swp
  dsimp only
  split
  · rfl
  · split <;> rfl
theorem Rearr.snoc {n:Nat} {f g:Nat→Ent} (a:Rearr n f g) {f' g':Nat→Ent} (hf:∀ i,i < n→f' i=f i) (hg:∀ i,i < n→g' i=g i) (he:f' n=g' n):Rearr (n+1) f' g':=by
  obtain ⟨σ,τ,s1,s2⟩:=a
  refine ⟨fun i=>if i=n then n else σ i,fun i=>if i=n then n else τ i,fun i hi => ?_,fun i hi => ?_⟩
  · by_cases e:i=n
    · simp only [if_pos e,if_true];exact ⟨by omega,by omega,e.symm,e.symm⟩
    · have a1:=s1 i (by omega)
      simp only [if_neg e,if_neg (show ¬ σ i=n by omega),if_neg (show ¬ τ i=n by omega)]
      exact ⟨by omega,by omega,a1.2.2.1,a1.2.2.2⟩
  · dsimp only;split
    · rename_i e;rw [e,he]
    · rw [hg i (by omega),s2 i (by omega),hf _ (s1 i (by omega)).1]
theorem Rearr.tail {n m k:Nat} {o g g':Nat→Ent} (a:Rearr k g g') (h:m+k=n):Rearr n (fun x=>if x < m then o x else g (x - m)) (fun x=>if x < m then o x else g' (x - m)):=by
  obtain ⟨σ,τ,s1,s2⟩:=a
  refine ⟨fun x=>if x < m then x else m+σ (x - m),fun x=>if x < m then x else m+τ (x - m),fun x hx => ?_,fun x hx => ?_⟩
  · by_cases e:x < m
    · simp only [if_pos e];exact ⟨hx,hx,trivial,trivial⟩
    · have a1:=s1 (x - m) (by omega)
      simp only [if_neg e,if_neg (show ¬ m+σ (x - m) < m by omega),if_neg (show ¬ m+τ (x - m) < m by omega),Nat.add_sub_cancel_left,a1.2.2.1,a1.2.2.2]
      exact ⟨by omega,by omega,by omega,by omega⟩
  · by_cases e:x < m
    · simp only [if_pos e]
    · simp only [if_neg e,if_neg (show ¬ m+σ (x - m) < m by omega),Nat.add_sub_cancel_left]
      exact s2 _ (by omega)
theorem Rearr.popped {n m k:Nat} {o g:Nat→Ent} (h:m+(k+1)=n):Rearr n (fun x=>if x < m then o x else g (x - m)) (fun x=>if x < m+1 then (if x=m then g 0 else o x) else (if x - (m+1)=0 then g k else g (x - (m+1)))):=by
  refine ⟨fun x=>if x≤m then x else if x=m+1 then n - 1 else x - 1,fun x=>if x≤m then x else if x=n - 1 then m+1 else x+1,fun x hx => ?_,fun x hx => ?_⟩
  · by_cases e:x≤m
    · simp only [if_pos e];exact ⟨hx,hx,trivial,trivial⟩
    · by_cases e2:x=m+1
      · simp only [if_neg e,if_pos e2,if_neg (show ¬ n - 1≤m by omega),if_true]
        by_cases e3:x=n - 1
        · simp only [if_pos e3,if_neg (show ¬ m+1≤m by omega),if_true];exact ⟨by omega,by omega,by omega,by omega⟩
        · simp only [if_neg e3,if_neg (show ¬ x+1≤m by omega),if_neg (show ¬ x+1=m+1 by omega)];exact ⟨by omega,by omega,by omega,by omega⟩
      · simp only [if_neg e,if_neg e2,if_neg (show ¬ x - 1≤m by omega),if_neg (show ¬ x - 1=n - 1 by omega)]
        by_cases e3:x=n - 1
        · simp only [if_pos e3,if_neg (show ¬ m+1≤m by omega),if_true];exact ⟨by omega,by omega,by omega,by omega⟩
        · simp only [if_neg e3,if_neg (show ¬ x+1≤m by omega),if_neg (show ¬ x+1=m+1 by omega)];exact ⟨by omega,by omega,by omega,by omega⟩
  · by_cases e:x≤m
    · simp only [if_pos e,if_pos (show x < m+1 by omega)]
      by_cases e2:x=m
      · rw [if_pos e2,if_neg (by omega),e2,Nat.sub_self]
      · rw [if_neg e2,if_pos (by omega)]
    · by_cases e2:x=m+1
      · simp only [if_neg e,if_pos e2,if_neg (show ¬ x < m+1 by omega),if_neg (show ¬ n - 1 < m by omega),if_pos (show x - (m+1)=0 by omega)]
        congr 1
        omega
      · simp only [if_neg e,if_neg e2,if_neg (show ¬ x < m+1 by omega),if_neg (show ¬ x - 1 < m by omega),if_neg (show ¬ x - (m+1)=0 by omega)]
        congr 1
        omega
def Hp (f:Nat→Ent) (n:Nat):Prop:=∀ c,0 < c→c < n→le (f ((c - 1) / 2)).k (f c).k
def HpUp (f:Nat→Ent) (n i:Nat):Prop:=(∀ c,0 < c→c < n→c≠i→le (f ((c - 1) / 2)).k (f c).k)∧∀ c,0 < c→c < n→(c - 1) / 2=i→0 < i→le (f ((i - 1) / 2)).k (f c).k
def HpDn (f:Nat→Ent) (n i:Nat):Prop:=(∀ c,0 < c→c < n→(c - 1) / 2≠i→le (f ((c - 1) / 2)).k (f c).k)∧∀ c,0 < c→c < n→(c - 1) / 2=i→0 < i→le (f ((i - 1) / 2)).k (f c).k
theorem up_stop {f:Nat→Ent} {n i:Nat} (h:HpUp f n i) (hs:0 < i→le (f ((i - 1) / 2)).k (f i).k):Hp f n:=fun c h0 hc=>by
  by_cases e:c=i
  · subst e;exact hs h0
  · exact h.1 c h0 hc e
theorem up_step {f:Nat→Ent} {n i:Nat} (h:HpUp f n i) (hi0:0 < i) (hi:i < n) (hl:lt (f i).k (f ((i - 1) / 2)).k=true):HpUp (swp f ((i - 1) / 2) i) n ((i - 1) / 2):=by
  have hp:(i - 1) / 2 < i:=by omega
  generalize hpi:(i - 1) / 2=p at *
  refine ⟨fun c h0 hc hne => ?_,fun c h0 hc hcp hp0 => ?_⟩
  · by_cases e:c=i
    · subst e
      rw [hpi]
      unfold swp
      rw [if_pos rfl,if_neg (by omega),if_pos rfl]
      exact le_of_lt hl
    · by_cases e2:(c - 1) / 2=i
      · unfold swp
        rw [e2,if_neg (by omega),if_pos rfl,if_neg hne,if_neg e]
        have:=h.2 c h0 hc e2 hi0
        rw [hpi] at this
        exact this
      · by_cases e3:(c - 1) / 2=p
        · unfold swp
          rw [e3,if_pos rfl,if_neg hne,if_neg e]
          have:=h.1 c h0 hc e
          rw [e3] at this
          exact le_trans (le_of_lt hl) this
        · unfold swp
          rw [if_neg e3,if_neg e2,if_neg hne,if_neg e]
          exact h.1 c h0 hc e
  · have hq:(p - 1) / 2 < p:=by omega
    have hpp:=h.1 p hp0 (by omega) (by omega)
    unfold swp
    rw [if_neg (show ¬ (p - 1) / 2=p by omega),if_neg (show ¬ (p - 1) / 2=i by omega),if_neg (show ¬ c=p by omega)]
    by_cases e:c=i
    · rw [if_pos e]
      exact hpp
    · rw [if_neg e]
      have:=h.1 c h0 hc e
      rw [hcp] at this
      exact le_trans hpp this
theorem dn_stop {f:Nat→Ent} {n i:Nat} (h:HpDn f n i) (hs:∀ c,0 < c→c < n→(c - 1) / 2=i→le (f i).k (f c).k):Hp f n:=fun c h0 hc=>by
  by_cases e:(c - 1) / 2=i
  · rw [e];exact hs c h0 hc e
  · exact h.1 c h0 hc e
theorem dn_step {f:Nat→Ent} {n i c:Nat} (h:HpDn f n i) (hc0:0 < c) (hc:c < n) (hci:(c - 1) / 2=i) (hl:lt (f c).k (f i).k=true) (hm:∀ c',0 < c' → c' < n→(c' - 1) / 2=i→le (f c).k (f c').k):HpDn (swp f c i) n c:=by
  have hic:i < c:=by omega
  refine ⟨fun x h0 hx hne => ?_,fun x h0 hx hxc _ => ?_⟩
  · by_cases e:(x - 1) / 2=i
    · unfold swp
      rw [e,if_neg (by omega),if_pos rfl]
      by_cases e2:x=c
      · rw [if_pos e2]
        exact le_of_lt hl
      · rw [if_neg e2,if_neg (by omega)]
        exact hm x h0 hx e
    · unfold swp
      rw [if_neg hne,if_neg e]
      by_cases e2:x=c
      · subst e2;exact absurd hci e
      · rw [if_neg e2]
        by_cases e3:x=i
        · subst e3
          rw [if_pos rfl]
          exact h.2 c hc0 hc hci h0
        · rw [if_neg e3]
          exact h.1 x h0 hx e
  · unfold swp
    rw [hci,if_neg (show ¬ i=c by omega),if_pos rfl,if_neg (show ¬ x=c by omega),if_neg (show ¬ x=i by omega)]
    have:=h.1 x h0 hx (by omega)
    rw [hxc] at this
    exact this
theorem hp_min {f:Nat→Ent} {n:Nat} (h:Hp f n):∀ i,i < n→le (f 0).k (f i).k:=by
  intro i
  induction i using Nat.strongRecOn with
  | _ i ih=>
    intro hi
    rcases Nat.eq_zero_or_pos i with rfl | h0
    · exact le_refl _
    · exact le_trans (ih ((i - 1) / 2) (by omega) (by omega)) (h i h0 hi)
end Go.Hp

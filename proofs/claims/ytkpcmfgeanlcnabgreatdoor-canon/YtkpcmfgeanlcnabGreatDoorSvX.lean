/-
  Bytes as a field, without conditions; a square of unit rows and of inverses of i exclusive-or j; elimination without exchange.
-/
import Derived.Test.YtkpcmfgeanlcnabGreatDoorSame
import Derived.Test.YtkpcmfgeanlcnabGreatDoorLfM
import Derived.Test.YtkpcmfgeanlcnabGreatDoorCoV
namespace Go.Proofs.YtkpcmfgeanlcnabGreatDoor
abbrev F:=Fin 256
namespace F
def add (a b:F):F:=⟨a.val ^^^ b.val,xor_lt a.isLt b.isLt⟩
def mu (a b:F):F:=⟨mul a.val b.val,mul_lt a.isLt⟩
def iv (a:F):F:=⟨inv a.val,inv_lt a.isLt⟩
theorem add_comm (a b:F):add a b=add b a:=Fin.ext (Nat.xor_comm _ _)
theorem add_assoc (a b c:F):add (add a b) c=add a (add b c):=Fin.ext (Nat.xor_assoc _ _ _)
theorem add_left (a b c:F):add a (add b c)=add b (add a c):=by rw [← add_assoc,add_comm a b,add_assoc]
theorem add_self (a:F):add a a=0:=Fin.ext (Nat.xor_self _)
theorem add_zero (a:F):add a 0=a:=Fin.ext (Nat.xor_zero _)
theorem zero_add (a:F):add 0 a=a:=by rw [add_comm,add_zero]
theorem add_self_left (a b:F):add a (add a b)=b:=by rw [← add_assoc,add_self,zero_add]
theorem mu_comm (a b:F):mu a b=mu b a:=Fin.ext (mul_comm a.isLt b.isLt)
theorem mu_assoc (a b c:F):mu (mu a b) c=mu a (mu b c):=Fin.ext (mul_assoc a.isLt b.isLt c.isLt).symm
theorem mu_left (a b c:F):mu a (mu b c)=mu b (mu a c):=by rw [← mu_assoc,mu_comm a b,mu_assoc]
theorem mu_add (a b c:F):mu a (add b c)=add (mu a b) (mu a c):=Fin.ext (mul_xor_right _ _ a.isLt)
theorem add_mu (a b c:F):mu (add a b) c=add (mu a c) (mu b c):=Fin.ext (mul_xor_left _ a.isLt b.isLt)
theorem mu_zero (a:F):mu a 0=0:=Fin.ext (mul_zero a.val)
theorem zero_mu (a:F):mu 0 a=0:=by rw [mu_comm,mu_zero]
theorem mu_one (a:F):mu a 1=a:=Fin.ext (mul_one a.isLt)
theorem one_mu (a:F):mu 1 a=a:=by rw [mu_comm,mu_one]
theorem mu_iv {a:F} (h:a≠0):mu a (iv a)=1:=Fin.ext (mul_inv a.isLt fun e=>h (Fin.ext e))
theorem iv_mu {a:F} (h:a≠0):mu (iv a) a=1:=by rw [mu_comm,mu_iv h]
theorem mu_cancel {a b c:F} (ha:a≠0) (h:mu a b=mu a c):b=c:=by
  have:=congrArg (mu (iv a)) h
  rwa [← mu_assoc,← mu_assoc,iv_mu ha,one_mu,one_mu] at this
theorem key {u a b z:F} (h1:add u b≠0) (h2:add z b≠0) (h3:add u z≠0) (h4:add a z≠0) (x:F) :
    add (mu (iv (add u z)) (mu x (mu (add a z) (iv (add z b))))) (mu (mu (add a b) (iv (add u b))) (mu (iv (add a z)) (mu x (mu (add a z) (iv (add z b))))))=mu (mu (add u a) (iv (add u b))) (mu (iv (add u z)) x):=by
  have e4:mu (iv (add a z)) (mu x (mu (add a z) (iv (add z b))))=mu x (iv (add z b)):=by
    rw [mu_left x,← mu_assoc,iv_mu h4,one_mu]
  rw [e4]
  apply mu_cancel h1
  apply mu_cancel h2
  apply mu_cancel h3
  have t1:mu (add u z) (mu (add z b) (mu (add u b) (mu (iv (add u z)) (mu x (mu (add a z) (iv (add z b)))))))=mu x (mu (add a z) (add u b)):=by
    calc _=mu (mu (add u z) (iv (add u z))) (mu (mu (add z b) (iv (add z b))) (mu x (mu (add a z) (add u b)))):=by simp only [mu_comm,mu_left]
      _=_:=by rw [mu_iv h3,mu_iv h2,one_mu,one_mu]
  have t2:mu (add u z) (mu (add z b) (mu (add u b) (mu (mu (add a b) (iv (add u b))) (mu x (iv (add z b))))))=mu x (mu (add a b) (add u z)):=by
    calc _=mu (mu (add u b) (iv (add u b))) (mu (mu (add z b) (iv (add z b))) (mu x (mu (add a b) (add u z)))):=by simp only [mu_comm,mu_left]
      _=_:=by rw [mu_iv h1,mu_iv h2,one_mu,one_mu]
  have t3:mu (add u z) (mu (add z b) (mu (add u b) (mu (mu (add u a) (iv (add u b))) (mu (iv (add u z)) x))))=mu x (mu (add u a) (add z b)):=by
    calc _=mu (mu (add u b) (iv (add u b))) (mu (mu (add u z) (iv (add u z))) (mu x (mu (add u a) (add z b)))):=by simp only [mu_comm,mu_left]
      _=_:=by rw [mu_iv h1,mu_iv h3,one_mu,one_mu]
  rw [mu_add (add u b),mu_add (add z b),mu_add (add u z),t1,t2,t3,← mu_add]
  refine congrArg (mu x) ?_
  simp only [mu_add,add_mu]
  simp only [mu_comm,add_assoc,add_comm,add_left,add_self_left,add_self,zero_add]
def sum:List Nat→(Nat→F)→F
  | [],_=>0
  | i :: l,f=>add (f i) (sum l f)
theorem sum_zero (l:List Nat) {f:Nat→F} (h:∀ i∈l,f i=0):sum l f=0:=by
  induction l with
  | nil=>rfl
  | cons i l ih=>rw [sum,h i (by simp),ih fun j hj=>h j (by simp [hj]),add_zero]
theorem sum_single {l:List Nat} (hl:l.Nodup) {f:Nat→F} {t:Nat} (ht:t∈l) (h:∀ i∈l,i≠t→f i=0):sum l f=f t:=by
  induction l with
  | nil=>cases ht
  | cons i l ih=>
    rw [List.nodup_cons] at hl
    rw [sum]
    rcases List.mem_cons.1 ht with rfl | ht'
    · rw [sum_zero l fun j hj=>h j (by simp [hj]) (fun e=>hl.1 (e ▸ hj)),add_zero]
    · rw [h i (by simp) (fun e=>hl.1 (e ▸ ht')),zero_add]
      exact ih hl.2 ht' fun j hj hne=>h j (by simp [hj]) hne
end F
end Go.Proofs.YtkpcmfgeanlcnabGreatDoor
namespace Go.Proofs.YtkpcmfgeanlcnabGreatDoor
namespace F
def dot (k:Nat) (r x:Nat→F):F:=sum (List.range k) fun j=>mu (r j) (x j)
structure Sq (k:Nat) (px:Nat→F) (M:Nat→Nat→F):Prop where
  unit:∀ s,s < k→(px s).val < k→(px s).val=s∧∀ j,j < k→M s j=if j=s then 1 else 0
  inv:∀ s,s < k→k≤(px s).val→∀ j,j < k→M s j=iv (add (px s) (Fin.ofNat 256 j))
  inj:∀ s j,s < k→j < k→s≠j→px s≠px j
  small:k≤256
theorem dot_unit {k:Nat} {r x:Nat→F} {s:Nat} (hs:s < k) (h:∀ j,j < k→r j=if j=s then 1 else 0):dot k r x=x s:=by
  have:=sum_single (l:=List.range k) List.nodup_range (f:=fun j=>mu (r j) (x j)) (t:=s) (by simpa using hs) (fun i hi hne=>by
    simp only [List.mem_range] at hi
    simp only [h i hi,if_neg hne,zero_mu])
  rw [dot,this]
  simp only [h s hs,if_true,one_mu]
structure Gj (k:Nat) (M:Nat→Nat→F) (t:Nat) (A B:Nat→Nat→F):Prop where
  same:∀ x y:Nat→F,(∀ i,i < k→dot k (A i) x=dot k (B i) y)↔∀ i,i < k→dot k (M i) x=y i
  left:∀ i s,i < k→s < t→A i s=if s=i then 1 else 0
  right:∀ i s,i < k→t≤s→s < k→B i s=if s=i then 1 else 0
end F
end Go.Proofs.YtkpcmfgeanlcnabGreatDoor
namespace Go.Lf
open Go.Conc
def isGh:Obj→Bool
  | .view a _ => !a.spot.isSome
  | .pending .. => true
  | _=>false
def shut:Obj→Obj
  | .view _ t=>.view ⟨0,0,some default⟩ t
  | .pending .. => .stringIter .empty 0
  | o=>o
def empt:Obj→Obj
  | .cells _ t fr=>.cells #[] t fr
  | o=>o
theorem isGh_no {o:Obj} (h:isGh o=false):NoView o:=by
  cases o <;> first | trivial | (simp [isGh] at h;exact h) | cases h
theorem isGh_yes {o:Obj} (h:isGh o=true):Ghost o (shut o):=by
  cases o <;> first | exact .inl ⟨_,_,rfl,rfl⟩ | exact .inr ⟨_,_,rfl,rfl⟩ | cases h
end Go.Lf
namespace Go.Proofs.YtkpcmfgeanlcnabGreatDoor
theorem comb_get (w:Nat→Nat) (c:Nat→List Nat) (L m:Nat) (hm:m < L) (hc:∀ j,(c j).length=L):∀ n:Nat,
    (comb ((List.range n).map fun j=>(w j,c j)) (List.replicate L 0)).getD m 0=Nat.rec (motive:=fun _=>Nat) 0 (fun j r=>r ^^^ mul ((c j).getD m 0) (w j)) n
  | 0=>by
    show (List.replicate L 0).getD m 0=0
    simp [hm]
  | n+1=>by
    rw [List.range_succ,List.map_append]
    simp only [List.map_cons,List.map_nil]
    rw [comb_snoc]
    have hl:(comb ((List.range n).map fun j=>(w j,c j)) (List.replicate L 0)).length=L:=by rw [comb_length];simp
    have ih:=comb_get w c L m hm hc n
    have key:∀ (f:Nat) (xs ys:List Nat) (m:Nat),m < xs.length→m < ys.length→(addT f xs ys).getD m 0=xs.getD m 0 ^^^ mul (ys.getD m 0) f:=by
      intro f xs
      induction xs with
      | nil=>intro ys m h;simp at h
      | cons x xs ihx=>
        intro ys m h h'
        cases ys with
        | nil=>simp at h'
        | cons y ys=>
          cases m with
          | zero=>simp [addT]
          | succ m=>
            simp only [addT,List.getD_cons_succ]
            exact ihx ys m (by simpa using h) (by simpa using h')
    rw [key _ _ _ m (by rw [hl];exact hm) (by rw [hc];exact hm),ih]
end Go.Proofs.YtkpcmfgeanlcnabGreatDoor
namespace Go.Lf
open Go.Conc Go.Gh Go.RowKit
open Classical
noncomputable def fixX (X:Nat→Prop) (b:Nat) (o:Obj):Obj:=if X b then empt o else if isGh o then shut o else o
theorem doctorX (w:World) (X:Nat→Prop) (h:∀ b,X b→∃ cs t,w.heap[b]? = some (.cells cs t (0,0))) :
    ∃ (Y:Nat→Option Obj) (v:World),Sim X Y w v∧(∀ b c t fr,¬ X b→w.heap[b]? = some (.cells c t fr)→v.heap[b]? = some (.cells c t fr)):=by
  let Y:Nat→Option Obj:=fun b=>if X b then none else (w.heap[b]?).bind fun o=>if isGh o then some o else none
  have hget:∀ b,(w.heap.mapIdx (fixX X))[b]? = (w.heap[b]?).map (fixX X b):=fun b=>by simp
  have hY:∀ b o,Y b=some o→¬ X b∧w.heap[b]? = some o∧isGh o=true:=fun b o hy=>by
    simp only [Y] at hy
    split at hy
    · cases hy
    · rename_i hne
      cases hb:w.heap[b]? with
      | none=>rw [hb] at hy;cases hy
      | some o'=>
        rw [hb] at hy
        simp only [Option.bind_some] at hy
        split at hy
        · rename_i hg
          cases hy
          exact ⟨hne,rfl,hg⟩
        · cases hy
  refine ⟨Y,{ w with heap:=w.heap.mapIdx (fixX X) },⟨by simp,fun b hb => ?_,fun b hx hy => ?_,fun b o hy => ?_,fun b hx => ?_,fun b o hb => ?_,rfl,rfl,fun _ _=>rfl,fun b cs t fr hx hb => ?_⟩,fun b c t fr hx hb => ?_⟩
  · rcases hb with hb | hb
    · obtain ⟨cs,t,hc⟩:=h b hb
      simpa using (Array.getElem?_eq_some_iff.1 hc).1
    · obtain ⟨o,ho⟩:=Option.isSome_iff_exists.1 hb
      simpa using (Array.getElem?_eq_some_iff.1 (hY b o ho).2.1).1
  · show w.heap[b]? = (w.heap.mapIdx (fixX X))[b]?
    rw [hget]
    cases hb:w.heap[b]? with
    | none=>rfl
    | some o=>
      simp only [Y,if_neg hx,hb,Option.bind_some] at hy
      have hg:isGh o=false:=by
        cases hg:isGh o with
        | false=>rfl
        | true=>rw [hg] at hy;cases hy
      simp only [Option.map_some,fixX,if_neg hx,hg,Bool.false_eq_true,if_false]
  · obtain ⟨h1,h2,h3⟩:=hY b o hy
    refine ⟨shut o,h2,?_,isGh_yes h3⟩
    show (w.heap.mapIdx (fixX X))[b]? = _
    rw [hget,h2]
    simp only [Option.map_some,fixX,if_neg h1,h3,if_true]
  · obtain ⟨cs,t,hc⟩:=h b hx
    refine ⟨cs,t,(0,0),hc,?_⟩
    show (w.heap.mapIdx (fixX X))[b]? = _
    rw [hget,hc]
    simp only [Option.map_some,fixX,if_pos hx,empt]
  · change (w.heap.mapIdx (fixX X))[b]? = some o at hb
    rw [hget] at hb
    obtain ⟨o',h1,rfl⟩:=Option.map_eq_some_iff.1 hb
    unfold fixX
    split
    · rename_i hx
      obtain ⟨cs,t,hc⟩:=h b hx
      rw [h1] at hc
      cases hc
      trivial
    · split
      · rename_i hg
        exact (isGh_yes hg).nv
      · rename_i hg
        exact isGh_no (by simpa using hg)
  · change (w.heap.mapIdx (fixX X))[b]? = _ at hb
    obtain ⟨cs',t',hc⟩:=h b hx
    rw [hget,hc] at hb
    simp only [Option.map_some,fixX,if_pos hx,empt,Option.some.injEq,Obj.cells.injEq] at hb
    exact hb.2.2.symm
  · show (w.heap.mapIdx (fixX X))[b]? = _
    rw [hget,hb]
    simp only [Option.map_some,fixX,if_neg hx,isGh,Bool.false_eq_true,if_false]
theorem dok_dm {X:Nat→Prop} {Shun:Loc→Prop} (h:∀ l,Shun l→∃ a:Addr,l = .cell a∧X a.block):Dok X (DM Shun):=by
  intro n w es hs hev
  refine ⟨hs,fun e he => ?_⟩
  rcases hev e he with ⟨a,wr,rfl,h2,h3⟩ | ⟨r,wr,sy,rfl,_,_⟩ | ⟨m0,hm0,rfl⟩
  · refine ⟨⟨fun x hx hsh => ?_,by simp,by simp⟩,fun x hx ad ead => ?_⟩
    · simp only [MemAct.ofEvent,MemAct.touch?,Option.some.injEq] at hx
      subst hx
      obtain ⟨a',h4,h5⟩:=h _ hsh
      cases h4
      exact absurd h5 h3
    · simp only [MemAct.ofEvent,MemAct.touch?,Option.some.injEq] at hx
      subst hx
      cases ead
      exact h2
  · have no:∀ x,(MemAct.ofEvent ⟨.obj r,wr,sy⟩).touch? = some x→∀ a:Addr,x.loc ≠ .cell a:=fun x hx a e=>by
      cases wr <;> cases sy <;> simp only [MemAct.ofEvent,MemAct.touch?,Option.some.injEq,reduceCtorEq] at hx <;> (subst hx;cases e)
    exact ⟨⟨fun x hx hsh=>by obtain ⟨a',h4,_⟩:=h _ hsh;exact absurd h4 (no x hx a'),by simp,by simp⟩,fun x hx ad ead=>absurd ead (no x hx ad)⟩
  · rcases hm0 with rfl | ⟨_,rfl⟩ <;> exact ⟨⟨fun x hx=>by simp [MemAct.ofEvent,MemAct.touch?] at hx,by simp,by simp⟩,fun x hx=>by simp [MemAct.ofEvent,MemAct.touch?] at hx⟩
def Bel (B:Nat) (w w':World):Prop:=Below B { w with tape:=w'.tape } w'
theorem Bel.of {B:Nat} {w w':World} (h:Below B w w'):Bel B w w':=⟨h.os,rfl,h.output,h.size,h.block⟩
theorem Bel.refl (B:Nat) (w:World):Bel B w w:=Bel.of (Below.refl B w)
theorem Bel.tp {B:Nat} {w w':World} (h:Bel B w w') (τ:Nat→Question→Nat) (d:Nat):Bel B w { w' with tape:=τ,drawn:=d }:=⟨h.os,rfl,h.output,h.size,h.block⟩
theorem Bel.trans {B B':Nat} {w w' w'':World} (h:Bel B w w') (h':Bel B' w' w'') (hB:B≤B'):Bel B w w'':=⟨h'.os.trans h.os,rfl,h'.output.trans h.output,Nat.le_trans h.size h'.size,fun k hk=>(h'.block k (Nat.lt_of_lt_of_le hk hB)).trans (h.block k hk)⟩
theorem Bel.size' {B:Nat} {w w':World} (h:Bel B w w'):w.heap.size≤w'.heap.size:=h.size
theorem Bel.blk {B:Nat} {w w':World} (h:Bel B w w') {k:Nat} (hk:k < B):w'.heap[k]? = w.heap[k]?:=h.block k hk
theorem Bel.mono {B B':Nat} {w w':World} (h:Bel B w w') (hB:B' ≤ B):Bel B' w w':=⟨h.os,rfl,h.output,h.size,fun k hk=>h.block k (Nat.lt_of_lt_of_le hk hB)⟩
end Go.Lf

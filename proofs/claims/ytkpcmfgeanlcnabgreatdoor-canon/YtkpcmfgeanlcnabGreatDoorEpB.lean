/-
  The blobs of the statements fit; what stands of them.
-/
import Derived.Test.YtkpcmfgeanlcnabGreatDoorSmD
import Derived.Sort.QuietIn
import Derived.Test.YtkpcmfgeanlcnabGreatDoorLfF
import Derived.Test.YtkpcmfgeanlcnabGreatDoorCoG
namespace Go.Proofs.YtkpcmfgeanlcnabGreatDoor
open Go.RowKit Go.Deep Go.Lf Go.Conc Go.Hp
theorem owns_sub {w w':World} {B e z n:Nat} {v:Value} {xs:List Value} (h:w.ownsRow B e z v n xs) (hs:Sub w w'):w'.ownsRow B e z v n xs:=by
  refine ⟨h.1,?_⟩
  rcases h.2 with h1 | ⟨g,cap,cur,h1,h2,h3,h4⟩
  · exact .inl h1
  · exact .inr ⟨g,cap,cur,h1,h2,hs.2 _ _ _ _ h3,h4⟩
theorem SmP.sub {K N C m:Nat} {f:Nat→Ent} {D:Nat→List UInt8} {pb:Nat} {vb:Value} {w w':World} (h:SmP K N C m f D pb vb w) (hs:Sub w w'):SmP K N C m f D pb vb w':=
  ⟨hs.row h.par,by obtain ⟨B,h1⟩:=h.own;exact ⟨B,owns_sub h1 hs⟩,h.nm,h.len,fun j hj=>by obtain ⟨B,h1⟩:=h.dat j hj;exact ⟨B,owns_sub h1 hs⟩,h.hm⟩
def dOf (D:Nat→List UInt8) (e:Ent):List UInt8:=D ((e.k.getD 1 0).toNat - 97)
theorem dOf_nm (D:Nat→List UInt8) {e:Ent} {j:Nat} (hj:j < 26) (h:e.k=nmOf j):dOf D e=D j:=by
  unfold dOf
  rw [h]
  have:((nmOf j).getD 1 0).toNat=97+j:=by
    show (UInt8.ofNat (97+j)).toNat=97+j
    rw [UInt8.toNat_ofNat',Nat.mod_eq_of_lt (by omega)]
  rw [this,Nat.add_sub_cancel_left]
section
variable {h0 K N C m:Nat} {f:Nat→Ent} {D:Nat→List UInt8} {xs:List Nat} {pb:Nat} {vb vt:Value} {w:World}
theorem args_of {f':Nat→Ent} {v:Value} {B:Nat} (h:SmP K N C m f D pb vb w) (ho:w.ownsRow B 42 2 v m (blobL m f')) (hf:∀ i,i < m→∃ j,j < m∧f' i=f j):∃ bo cap,v = .slice bo m cap∧Args w bo m cap f' (dOf D):=by
  obtain ⟨bo,cap,rfl,h1,h2,hB⟩:=BC.of_owns ho
  have hm:=h.hm
  refine ⟨bo,cap,rfl,by omega,h1,h2,fun i hi => ?_,fun i hi => ?_,hB,fun i hi => ?_⟩
  · obtain ⟨j,hj,e⟩:=hf i hi
    rw [e,h.nm j hj]
    simp [nmOf]
  · obtain ⟨j,hj,e⟩:=hf i hi
    obtain ⟨B,hd⟩:=h.dat j hj
    have h1:=(data_owns hd).1
    have h2:=h.len j hj
    rw [e]
    omega
  · obtain ⟨j,hj,e⟩:=hf i hi
    obtain ⟨B,hd⟩:=h.dat j hj
    rw [e,dOf_nm D (by omega) (h.nm j hj)]
    exact data_owns hd
theorem SmP.args (h:SmP K N C m f D pb vb w):∃ bo cap,vb = .slice bo m cap∧Args w bo m cap f (dOf D):=by
  obtain ⟨B,ho⟩:=h.own
  exact args_of h ho fun i hi=>⟨i,hi,rfl⟩
theorem SmP.fits (h:SmP K N C m f D pb vb w):NamesFit m f:=names_fit (xs:=id) (fun i hi=>by have:=h.hm;show i < 26;omega) (fun i j h1 h2=>by show i≠j;omega) h.nm
theorem SmP.len2 (h:SmP K N C m f D pb vb w):∀ j,j < m→(f j).k.length=2∧(f j).l < 14:=fun j hj=>by
  obtain ⟨B,hd⟩:=h.dat j hj
  have h1:=(data_owns hd).1
  have h2:=h.len j hj
  exact ⟨by rw [h.nm j hj];rfl,by omega⟩
end
theorem fits_re {n:Nat} {f g:Nat→Ent} (hR:Rearr n f g) (h:NamesFit n f):NamesFit n g:=by
  refine ⟨fun i hi => ?_,fun i j h1 h2 e => ?_⟩
  · obtain ⟨j,hj,e⟩:=hR.from hi
    rw [e]
    exact h.1 j hj
  · obtain ⟨i',j',a1,a2,a3,a4,a5⟩:=hR.two (i:=i) (j:=j) (by omega) h2 (by omega)
    rw [a4,a5] at e
    rcases Nat.lt_or_ge i' j' with hlt | hge
    · exact h.2 i' j' hlt a2 e
    · exact h.2 j' i' (by omega) a1 e.symm
theorem strict_of {n:Nat} {g:Nat→Ent} (hS:Srt n g) (h:NamesFit n g):∀ i,i+1 < n→Hp.lt (g i).k (g (i+1)).k=true:=fun i hi=>by
  have h1:=hS i hi
  rcases Hp.lt_tri (g i).k (g (i+1)).k with ⟨h2,_,_⟩ | ⟨h2,_,_⟩ | ⟨h2,_,_⟩
  · exact h2
  · have h1':Hp.lt (g (i+1)).k (g i).k=false:=h1
    rw [h1'] at h2;cases h2
  · exact absurd h2 (h.2 i (i+1) (by omega) hi)
theorem sorted_same {n:Nat} {f g g':Nat→Ent} (h:NamesFit n f) (a:Rearr n f g) (b:Rearr n f g') (hg:Srt n g) (hg':Srt n g'):∀ i,i < n→g' i=g i:=
  sorted_one a b (strict_of hg (fits_re a h)) hg'
theorem sum_le {α:Type} (l:List α) (F:α→Nat) (c:Nat) (h:∀ x∈l,F x≤c):(l.map F).sum≤c*l.length:=by
  induction l with
  | nil=>simp
  | cons a l ih=>
    have h1:=h a (by simp)
    have h2:=ih fun x hx=>h x (by simp [hx])
    simp only [List.map_cons,List.sum_cons,List.length_cons,Nat.mul_succ]
    omega
theorem few_ok {m:Nat} {f g:Nat→Ent} (hm:m≤5) (h:∀ j,j < m→(f j).k.length=2∧(f j).l < 14) (hR:Rearr m f g):FewOk (namesOf m g) (sizesOf m g):=by
  have hg:∀ i,i < m→(g i).k.length=2∧(g i).l < 14:=fun i hi=>by
    obtain ⟨j,hj,e⟩:=hR.from hi
    rw [e]
    exact h j hj
  refine ⟨by rw [namesOf_length];omega,?_,?_⟩
  · unfold tot
    have:=sum_le (sizesOf m g) Int.toNat 14 fun x hx=>by
      simp only [sizesOf,List.mem_map,List.mem_range] at hx
      obtain ⟨i,hi,rfl⟩:=hx
      have:=hg i hi
      omega
    rw [sizesOf_length] at this
    omega
  · unfold manN
    have:=sum_le (namesOf m g) (fun n=>6+n.length) 8 fun x hx=>by
      simp only [namesOf,List.mem_map,List.mem_range] at hx
      obtain ⟨i,hi,rfl⟩:=hx
      have:=hg i hi
      omega
    rw [namesOf_length] at this
    omega
section
open Go.Conc
variable {P:Program} {X:Nat→Prop} {Y:Nat→Option Obj} {D:Nat→World→Array Event→Prop} {Stop:Goroutine→World→Prop} {f:FuncId} {v:World}
theorem reaR_done (hD0:Dok X D) {T:Array Value} {k:List Item} {fn:Func} (hf:P.funcs[f]? = some fn) (hin:P.inits.idxOf? f=none) {y:Value} (hres:∀ u,(results fn T).runT P u #[]=(.ok y u,#[]))
    (h:∀ w d,SimT X Y w v→(∀ d',stepG P true (G { Dn none [] f T (.code .ret :: k) with mode:=.returning } []) (w.at d') = .ended (.done y) (w.at d') #[])→Stop (G { Dn none [] f T (.code .ret :: k) with mode:=.returning } []) (w.at d)):ReaR P X Y D Stop none [] f [] (.code .ret :: k) T v:=by
  intro w hs
  refine .next rfl fun d=>⟨G { Dn none [] f T (.code .ret :: k) with mode:=.returning } [],w.at d,#[],rfl,hD0.nil (Nat.le_refl _),?_⟩
  have eA:∀ u,stepG P true (G { Dn none [] f T (.code .ret :: k) with mode:=.returning } []) u = .ended (.done y) u #[]:=fun u=>by
    have:=hres u
    simp only [G,stepG,unwind,Dn,hf,this,seen_none,doReturn,hin,Bool.not_true,Bool.false_eq_true,if_false,GStep.after,Array.append_empty]
  exact .stop fun d'=>h w d' hs fun d''=>eA _
end
section
variable {X:Nat→Prop} {Y:Nat→Option Obj} {D:Nat→World→Array Event→Prop} {Stop:Goroutine→World→Prop} {w:World} {h0 K N C m:Nat} {f:Nat→Ent} {Dt:Nat→List UInt8} {xs:List Nat} {pb:Nat} {vb vt va:Value}
structure ShI (N bh:Nat) (L:Nat→List UInt8) (w:World):Prop where
  at_:∀ i,i < N→∃ v,w.cell? ⟨bh,i,none⟩=some v∧Holds8 w v (L i)
def gThen:Code→Code | .cond _ c _=>c | c=>c
end
end Go.Proofs.YtkpcmfgeanlcnabGreatDoor
namespace Go.Proofs.YtkpcmfgeanlcnabGreatDoor
open Go.RowKit Go.Deep Go.Lf Go.Conc Go.ConcN Go.Gh Go.Hp
open Go.ConcR (Payload WgAt wgBlock)
structure Kz (h0:Nat) (w w':World):Prop where
  os:w'.os=w.os
  output:w'.output=w.output
  size:w.heap.size≤w'.heap.size
  block:∀ b,b < h0→w'.heap[b]? = w.heap[b]?
theorem Kz.trans {h0:Nat} {a b c:World} (h:Kz h0 a b) (h':Kz h0 b c):Kz h0 a c:=⟨h'.os.trans h.os,h'.output.trans h.output,Nat.le_trans h.size h'.size,fun x hx=>(h'.block x hx).trans (h.block x hx)⟩
theorem kz_sim {h0:Nat} {X:Nat→Prop} {Y:Nat→Option Obj} {W W' v v':World} (hs:SimT X Y W v) (hs':SimT X Y W' v') (hb:Bel h0 v v') (hX:∀ b,X b→h0≤b):Kz h0 W W':=by
  obtain ⟨τ,d,h⟩:=hs
  obtain ⟨τ',d',h'⟩:=hs'
  refine ⟨h'.os.trans (Eq.trans (show v'.os=v.os from hb.os) h.os.symm),h'.out.trans (Eq.trans (show v'.output=v.output from hb.output) h.out.symm),?_,fun b hlt=>Sim.agree h h' (fun hx=>by have:=hX b hx;omega) (hb.blk hlt)⟩
  have e1:W.heap.size=v.heap.size:=h.size
  have e2:W'.heap.size=v'.heap.size:=h'.size
  have:=hb.size'
  omega
theorem KpX.kz {h0:Nat} {X:Nat→Prop} {W W':World} (h:KpX X W W') (hX:∀ b,X b→h0≤b) (hW:h0≤W.heap.size):Kz h0 W W':=⟨h.os,h.output,h.size,fun b hb=>h.block b (by omega) (fun hx=>by have:=hX b hx;omega)⟩
theorem Ints.sub {w w':World} {v:Value} {zs:List Int} (h:Ints w v zs) (hs:Sub w w'):Ints w' v zs:=by
  refine ⟨h.in64,?_⟩
  rcases h.lies with h1 | ⟨b,off,cap,h1,h2,h3⟩
  · exact .inl h1
  · exact .inr ⟨b,off,cap,h1,Nat.lt_of_lt_of_le h2 hs.1,fun j z hz=>hs.cell (h3 j z hz)⟩
def AtE (X:Nat→Prop) (Y:Nat→Option Obj) (K N C:Nat) (vs:Value) (fr:Frame) (v:World) (gr:Goroutine) (W:World):Prop:=
  gr=G ((base 9).at ⟨#[vs,.agg #[.int .i64 ((K:Nat):Int),.int .i64 ((N:Nat):Int),.int .i64 ((C:Nat):Int)]]++Array.replicate 26 undef,[]⟩ [.code enBody]) [fr]∧SimT X Y W v
end Go.Proofs.YtkpcmfgeanlcnabGreatDoor
namespace Go.Lf
open Go.Extern Go.Extern.Rtype
section
variable {P:Program} {α:Type}
theorem plain_cutType (s:String):Plain P (cutType s):=by
  unfold cutType
  (repeat' (first | with_reducible (first | exact plain_pure _ | exact plain_stuck _ | exact plain_program | (refine plain_bind ?_ (fun _ => ?_))) | split))
theorem plain_panicString (s:String):Plain P (panicString s:Sem α):=by
  unfold panicString
  (repeat' (with_reducible first | exact plain_goPanic _ | exact plain_program | (refine plain_bind ?_ (fun _ => ?_))))
theorem plain_ofHandle (h:Value):Plain P (ofHandle h):=by
  unfold ofHandle
  (repeat' (first | with_reducible (first | exact plain_pure _ | exact plain_stuck _ | exact plain_program | (refine plain_bind ?_ (fun _ => ?_))) | split))
theorem plain_handle (t:TypeId):Plain P (handle t):=by
  unfold handle
  (repeat' (with_reducible first | exact plain_pure _ | exact plain_program | (refine plain_bind ?_ (fun _ => ?_))))
theorem plain_noPack (s:String) (t:TypeId):Plain P (noPack s t):=by
  unfold noPack
  (repeat' (first | with_reducible exact plain_pure _ | ((with_reducible refine plain_uns ?_);exact trivial) | with_reducible (first | exact plain_program | (refine plain_bind ?_ (fun _ => ?_)) | (refine plain_ite ?_ ?_))))
theorem plain_noPackHeld (s:String) (t:TypeId):Plain P (noPackHeld s t):=by
  unfold noPackHeld
  (repeat' (first | with_reducible exact plain_pure _ | ((with_reducible refine plain_uns ?_);exact trivial) | with_reducible (first | exact plain_program | (refine plain_bind ?_ (fun _ => ?_)) | (refine plain_ite ?_ ?_))))
theorem plain_noPackNamed (s:String) (t:TypeId):Plain P (noPackNamed s t):=by
  unfold noPackNamed
  (repeat' (first | with_reducible exact plain_pure _ | ((with_reducible refine plain_uns ?_);exact trivial) | with_reducible (first | exact plain_program | (refine plain_bind ?_ (fun _ => ?_)) | (refine plain_ite ?_ ?_))))
theorem plain_noPackMethods (s:String) (t:TypeId):Plain P (noPackMethods s t):=by
  unfold noPackMethods
  (repeat' (first | with_reducible exact plain_pure _ | ((with_reducible refine plain_uns ?_);exact trivial) | with_reducible (first | exact plain_program | (refine plain_bind ?_ (fun _ => ?_)) | (refine plain_ite ?_ ?_))))
theorem plain_typeStr (t:TypeId):Plain P (typeStr t):=by
  unfold typeStr
  (repeat' (first | with_reducible exact plain_pure _ | ((with_reducible refine plain_uns ?_);exact trivial) | with_reducible (first | exact plain_typeInfo _ | (refine plain_bind ?_ (fun _ => ?_)) | (refine plain_ite ?_ ?_))))
theorem plain_spelt (t:TypeId):Plain P (spelt t):=by
  unfold spelt
  (repeat' (with_reducible first | exact plain_noPackNamed _ _ | exact plain_typeStr _ | (refine plain_bind ?_ (fun _ => ?_))))
theorem plain_underR (t:TypeId):Plain P (under t):=by
  unfold under
  (repeat' (first | with_reducible (first | exact plain_pure _ | exact plain_typeInfo _ | (refine plain_bind ?_ (fun _ => ?_))) | split))
theorem plain_kind (t:TypeId):Plain P (kind t):=by
  unfold kind
  (repeat' (first | with_reducible (first | exact plain_pure _ | exact plain_stuck _ | exact plain_underR _ | (refine plain_bind ?_ (fun _ => ?_))) | split))
theorem plain_hasName (t:TypeId):Plain P (hasName t):=by
  unfold hasName
  (repeat' (first | with_reducible (first | exact plain_pure _ | exact plain_typeInfo _ | (refine plain_bind ?_ (fun _ => ?_))) | split))
theorem plain_elemQ (t:TypeId):Plain P (elem? t):=by
  unfold elem?
  (repeat' (first | with_reducible (first | exact plain_pure _ | exact plain_underR _ | (refine plain_bind ?_ (fun _ => ?_))) | split))
theorem plain_implements (t u:TypeId):Plain P (implements t u):=by
  unfold implements
  (repeat' (first | with_reducible (first | exact plain_pure _ | exact plain_noPackMethods _ _ | exact plain_underR _ | exact plain_typeInfo _ | (refine plain_bind ?_ (fun _ => ?_))) | split))
theorem plain_directly (t u:TypeId):Plain P (directlyAssignable t u):=by
  unfold directlyAssignable
  (repeat' (first | with_reducible (first | exact plain_pure _ | exact plain_hasName _ | exact plain_underR _ | (refine plain_bind ?_ (fun _ => ?_)) | (refine plain_ite ?_ ?_)) | split))
theorem plain_toType (t:TypeId):Plain P (ReflectliteType.toType t):=by
  unfold ReflectliteType.toType
  (repeat' (with_reducible first | exact plain_pure _ | exact plain_cutType _ | exact plain_handle _ | (refine plain_bind ?_ (fun _ => ?_))))
theorem plain_ofRtype (v:Value):Plain P (ReflectliteType.ofRtype v):=by
  unfold ReflectliteType.ofRtype
  cases v <;> first | exact plain_stuck _ | skip
  rename_i a
  rcases a with ⟨_ | ⟨h,_ | ⟨b,l⟩⟩⟩
  case cons.nil=>exact plain_bind (plain_ofHandle h) fun _=>plain_bind (plain_noPack _ _) fun _=>plain_pure _
  all_goals exact plain_stuck _
theorem plain_typeOf (vals:Array Value):Plain P (ReflectliteType.typeOf vals):=by
  unfold ReflectliteType.typeOf
  rcases vals with ⟨_ | ⟨a,_ | ⟨b,l⟩⟩⟩
  case cons.nil=>cases a <;> first | exact plain_stuck _ | exact plain_pure _ | exact plain_toType _
  all_goals exact plain_stuck _
theorem plain_methodT {f:TypeId→Sem Value} (h:∀ t,Plain P (f t)) (vals:Array Value):Plain P (ReflectliteType.method f vals):=by
  unfold ReflectliteType.method
  rcases vals with ⟨_ | ⟨a,_ | ⟨b,l⟩⟩⟩
  case cons.nil=>exact plain_bind (plain_ofRtype a) fun _=>h _
  all_goals exact plain_stuck _
theorem plain_elemT (t:TypeId):Plain P (ReflectliteType.elem t):=by
  unfold ReflectliteType.elem
  (repeat' (first | with_reducible (first | exact plain_elemQ _ | exact plain_toType _ | exact plain_spelt _ | exact plain_panicString _ | (refine plain_bind ?_ (fun _ => ?_))) | split))
theorem plain_relation {s:String} {f:TypeId→TypeId→Sem Bool} (h:∀ t u,Plain P (f t u)) (vals:Array Value):Plain P (ReflectliteType.relation s f vals):=by
  unfold ReflectliteType.relation
  rcases vals with ⟨_ | ⟨a,_ | ⟨b,_ | ⟨c,l⟩⟩⟩⟩
  case cons.cons.nil=>cases b <;> first | exact plain_stuck _ | exact plain_panicString _ | exact plain_bind (plain_ofRtype _) fun _=>plain_bind (plain_ofRtype _) fun _=>plain_bind (h _ _) fun _=>plain_pure _
  all_goals exact plain_stuck _
theorem plain_implements_ (t u:TypeId):Plain P (ReflectliteType.implements_ t u):=by
  unfold ReflectliteType.implements_
  (repeat' (with_reducible first | exact plain_kind _ | exact plain_panicString _ | exact plain_noPackMethods _ _ | exact plain_noPack _ _ | exact plain_implements _ _ | (refine plain_bind ?_ (fun _ => ?_)) | (refine plain_ite ?_ ?_)))
theorem plain_assignableTo (t u:TypeId):Plain P (ReflectliteType.assignableTo t u):=by
  unfold ReflectliteType.assignableTo
  (repeat' (with_reducible first | exact plain_pure _ | exact plain_noPackMethods _ _ | exact plain_directly _ _ | exact plain_implements _ _ | (refine plain_bind ?_ (fun _ => ?_)) | (refine plain_ite ?_ ?_)))
theorem plain_abiMethod {f:TypeId→Sem Value} (h:∀ t,Plain P (f t)) (vals:Array Value):Plain P (ReflectliteType.abiMethod f vals):=by
  unfold ReflectliteType.abiMethod
  rcases vals with ⟨_ | ⟨a,_ | ⟨b,l⟩⟩⟩
  case cons.nil=>exact plain_bind (plain_ofHandle a) fun _=>plain_bind (plain_noPack _ _) fun _=>h _
  all_goals exact plain_stuck _
theorem plain_mkV (t:TypeId) (a:Addr) (n:Nat):Plain P (ReflectliteValue.mk t a n):=by
  unfold ReflectliteValue.mk
  (repeat' (with_reducible first | exact plain_pure _ | exact plain_handle _ | exact plain_kind _ | (refine plain_bind ?_ (fun _ => ?_))))
theorem plain_unpack (v:Value):Plain P (ReflectliteValue.unpack v):=by
  unfold ReflectliteValue.unpack
  (repeat' (first | with_reducible (first | exact plain_pure _ | exact plain_stuck _ | exact plain_mkV _ _ _ | exact plain_newVar _ _ | (refine plain_bind ?_ (fun _ => ?_))) | split))
theorem plain_valueError (s:String) (k:Nat):Plain P (ReflectliteValue.valueError s k:Sem α):=by
  unfold ReflectliteValue.valueError
  (repeat' (with_reducible first | exact plain_goPanic _ | exact plain_cutType _ | exact plain_elemOf _ | exact plain_newVar _ _ | (refine plain_bind ?_ (fun _ => ?_))))
theorem plain_partsAny (v:Value):Plain P (ReflectliteValue.partsAny v):=by
  unfold ReflectliteValue.partsAny
  cases v <;> first | exact plain_stuck _ | skip
  rename_i a
  rcases a with ⟨_ | ⟨x,_ | ⟨y,_ | ⟨z,_ | ⟨u,l⟩⟩⟩⟩⟩
  case cons.cons.cons.nil=>
    cases z <;> first | exact plain_stuck _ | skip
    rename_i k n
    cases k <;> first | exact plain_stuck _ | skip
    rcases n with (_ | m) | m
    · exact plain_pure _
    · cases y <;> first | exact plain_stuck _ | skip
      rename_i q
      cases q with
      | none=>exact plain_stuck _
      | some ad=>exact plain_bind (plain_ofHandle x) fun _=>plain_pure _
    · cases y <;> first | exact plain_stuck _ | skip
      rename_i q
      cases q with
      | none=>exact plain_stuck _
      | some ad=>exact plain_bind (plain_ofHandle x) fun _=>plain_pure _
  all_goals exact plain_stuck _
theorem plain_parts (v:Value):Plain P (ReflectliteValue.parts v):=by
  unfold ReflectliteValue.parts
  (repeat' (first | with_reducible (first | exact plain_pure _ | exact plain_partsAny _ | exact plain_noPack _ _ | (refine plain_bind ?_ (fun _ => ?_))) | split))
theorem plain_methodV {z:Sem Value} {f:TypeId→Addr→Nat→Nat→Sem Value} (hz:Plain P z) (h:∀ t a n m,Plain P (f t a n m)) (vals:Array Value):Plain P (ReflectliteValue.method z f vals):=by
  unfold ReflectliteValue.method
  rcases vals with ⟨_ | ⟨a,_ | ⟨b,l⟩⟩⟩
  case cons.nil=>
    refine plain_bind (plain_parts a) fun r => ?_
    cases r with
    | none=>exact hz
    | some x=>exact h _ _ _ _
  all_goals exact plain_stuck _
theorem plain_methodAny {z:Sem Value} {f:TypeId→Addr→Nat→Nat→Sem Value} (hz:Plain P z) (h:∀ t a n m,Plain P (f t a n m)) (vals:Array Value):Plain P (ReflectliteValue.methodAny z f vals):=by
  unfold ReflectliteValue.methodAny
  rcases vals with ⟨_ | ⟨a,_ | ⟨b,l⟩⟩⟩
  case cons.nil=>
    refine plain_bind (plain_partsAny a) fun r => ?_
    cases r with
    | none=>exact hz
    | some x=>exact h _ _ _ _
  all_goals exact plain_stuck _
theorem plain_isNil (t:TypeId) (a:Addr) (n k:Nat):Plain P (ReflectliteValue.isNil t a n k):=by
  unfold ReflectliteValue.isNil
  (repeat' (first | with_reducible (first | exact plain_pure _ | exact plain_valueError _ _ | exact plain_loadVar _ _ | (refine plain_bind ?_ (fun _ => ?_)) | (refine plain_ite ?_ ?_)) | split))
theorem plain_elemV (t:TypeId) (a:Addr) (n k:Nat):Plain P (ReflectliteValue.elem t a n k):=by
  unfold ReflectliteValue.elem
  (repeat' (first | with_reducible (first | exact plain_pure _ | exact plain_valueError _ _ | exact plain_loadVar _ _ | exact plain_elemQ _ | exact plain_unpack _ | exact plain_mkV _ _ _ | (refine plain_bind ?_ (fun _ => ?_)) | (refine plain_ite ?_ ?_)) | split))
theorem plain_setV (vals:Array Value):Plain P (ReflectliteValue.set vals):=by
  unfold ReflectliteValue.set
  rcases vals with ⟨_ | ⟨a,_ | ⟨b,_ | ⟨c,l⟩⟩⟩⟩
  case cons.cons.nil=>
    refine plain_bind (plain_parts a) fun p=>plain_bind (plain_parts b) fun q => ?_
    (repeat' (first | with_reducible exact plain_pure _ | ((with_reducible refine plain_uns ?_);exact trivial) | with_reducible (first | exact plain_loadVar _ _ | exact plain_directly _ _ | exact plain_storeVar _ _ _ | exact plain_implements _ _ | exact plain_kind _ | exact plain_spelt _ | exact plain_panicString _ | (refine plain_bind ?_ (fun _ => ?_)) | (refine plain_ite ?_ ?_)) | split))
  all_goals exact plain_stuck _
end
end Go.Lf
namespace Go.Proofs.YtkpcmfgeanlcnabGreatDoor
open Go.Lf Go.Extern
def closP (f:FuncId):Clos:=if f == 142 then [5,9,17,19,21,23,35,37,67,85].map fun j=>(j,146,1) else []
def tameQ:List FuncId:=[10,24,26,18,29,30,35,42,43,49,50,51,60,11,21,22,23,28,38,39,40,41,44,45,46,54,57,68,70,72,77,85,109,110,111,130,131,132,133,134,140,141,142,146,143,144,145,147,148,149,150,151,152,153,154,155,156,157,158,159,160,161,162,163,182,184]
def extQ:List FuncId:=[69,82,83,84,121,122,177,178,186,189,190,191,192]
def tameP (f:FuncId):Bool:=tameQ.contains f || extQ.contains f
noncomputable def goodOneP (f:FuncId):Bool:=match Tryz.prog.funcs[f]? with
  | none=>false
  | some fn => !(fn.name == "runtime.NumGoroutine") && match fn.body with
    | none=>false
    | some c=>okCodeS Tryz.prog tameP (closP f) c && (closP f).all fun x=>decide (arity Tryz.prog f≤x.1)
theorem goodQ:tameQ.all goodOneP=true:=by kernel_rfl
attribute [local irreducible] Plain
theorem ext_of {P:Program} {f:FuncId} {fn:Func} (e:Array Value→Sem Value) (h1:P.funcs[f]? = some fn) (h2:(fn.name == "runtime.NumGoroutine")=false) (h3:fn.body=none) (h4:Extern.findNext fn=none) (h5:Extern.find fn=some e) (h6:∀ xs,Plain P (e xs)):GoodExt P f:=
  ⟨fn,h1,h2,h3,h4,fun e' he xs=>by rw [h5] at he;cases he;exact Okay.of (h6 xs)⟩
theorem ext_no {P:Program} {f:FuncId} {fn:Func} (h1:P.funcs[f]? = some fn) (h2:(fn.name == "runtime.NumGoroutine")=false) (h3:fn.body=none) (h4:Extern.findNext fn=none) (h5:Extern.find fn=none):GoodExt P f:=
  ⟨fn,h1,h2,h3,h4,fun e' he xs=>by rw [h5] at he;cases he⟩
theorem goodX:∀ f∈extQ,GoodExt Tryz.prog f:=by
  intro f hf
  simp only [extQ,List.mem_cons,List.not_mem_nil,or_false] at hf
  rcases hf with rfl | rfl | rfl | rfl | rfl | rfl | rfl | rfl | rfl | rfl | rfl | rfl | rfl
  · exact ext_of ReflectliteType.typeOf Tryz.func69 (by kernel_rfl) (by kernel_rfl) (by kernel_rfl) (by kernel_rfl) (plain_typeOf)
  · exact ext_of (fun args=>ReflectliteValue.unpack (args.getD 0 (.tuple #[]))) Tryz.func82 (by kernel_rfl) (by kernel_rfl) (by kernel_rfl) (by kernel_rfl) (fun _=>plain_unpack _)
  · exact ext_of (ReflectliteValue.methodAny (ReflectliteValue.valueError "reflectlite.Value.Type" 0) fun t _ _ _=>ReflectliteType.toType t) Tryz.func83 (by kernel_rfl) (by kernel_rfl) (by kernel_rfl) (by kernel_rfl) (plain_methodAny (plain_valueError _ _) fun _ _ _ _=>plain_toType _)
  · exact ext_of (ReflectliteValue.method (ReflectliteValue.valueError "reflectlite.Value.IsNil" 0) ReflectliteValue.isNil) Tryz.func84 (by kernel_rfl) (by kernel_rfl) (by kernel_rfl) (by kernel_rfl) (plain_methodV (plain_valueError _ _) plain_isNil)
  · exact ext_of (ReflectliteValue.method (ReflectliteValue.valueError "reflectlite.Value.Elem" 0) ReflectliteValue.elem) Tryz.func121 (by kernel_rfl) (by kernel_rfl) (by kernel_rfl) (by kernel_rfl) (plain_methodV (plain_valueError _ _) plain_elemV)
  · exact ext_of ReflectliteValue.set Tryz.func122 (by kernel_rfl) (by kernel_rfl) (by kernel_rfl) (by kernel_rfl) (plain_setV)
  · exact ext_no Tryz.func177 (by kernel_rfl) (by kernel_rfl) (by kernel_rfl) (by kernel_rfl)
  · exact ext_of (ReflectliteType.abiMethod fun t=>do pure (.int .u8 (← Rtype.kind t))) Tryz.func178 (by kernel_rfl) (by kernel_rfl) (by kernel_rfl) (by kernel_rfl) (plain_abiMethod fun _=>plain_bind (plain_kind _) fun _=>plain_pure _)
  · exact ext_of (ReflectliteValue.method (pure (.int .u8 0)) fun _ _ _ k=>pure (.int .u8 (Int.ofNat k))) Tryz.func186 (by kernel_rfl) (by kernel_rfl) (by kernel_rfl) (by kernel_rfl) (plain_methodV (plain_pure _) fun _ _ _ _=>plain_pure _)
  · exact ext_of (ReflectliteType.relation "AssignableTo" ReflectliteType.assignableTo) Tryz.func189 (by kernel_rfl) (by kernel_rfl) (by kernel_rfl) (by kernel_rfl) (plain_relation plain_assignableTo)
  · exact ext_of (ReflectliteType.method fun t=>do Rtype.noPackHeld "Comparable" t;pure (.bool (← typeInfo t).comparable)) Tryz.func190 (by kernel_rfl) (by kernel_rfl) (by kernel_rfl) (by kernel_rfl) (plain_methodT fun _=>plain_bind (plain_noPackHeld _ _) fun _=>plain_bind (plain_typeInfo _) fun _=>plain_pure _)
  · exact ext_of (ReflectliteType.method ReflectliteType.elem) Tryz.func191 (by kernel_rfl) (by kernel_rfl) (by kernel_rfl) (by kernel_rfl) (plain_methodT plain_elemT)
  · exact ext_of (ReflectliteType.relation "Implements" ReflectliteType.implements_) Tryz.func192 (by kernel_rfl) (by kernel_rfl) (by kernel_rfl) (by kernel_rfl) (plain_relation plain_implements_)
theorem goodP:GoodF Tryz.prog tameP:=by
  intro f hf
  rw [tameP,Bool.or_eq_true] at hf
  rcases hf with hf | hf
  · left
    have h:=List.all_eq_true.1 goodQ f (by simpa using hf)
    unfold goodOneP at h
    split at h
    · cases h
    · rename_i fn hfn
      rw [Bool.and_eq_true] at h
      obtain ⟨h1,h2⟩:=h
      split at h2
      · cases h2
      · rename_i c hc
        rw [Bool.and_eq_true] at h2
        exact ⟨fn,c,closP f,hfn,by simpa using h1,hc,h2.1,fun x hx=>by simpa using List.all_eq_true.1 h2.2 x hx⟩
  · right
    exact goodX f (by simpa using hf)
theorem bodyP {f:FuncId} (h:tameQ.contains f=true) (hb:hasBody Tryz.prog f=true):GoodBody Tryz.prog tameP f:=goodP.body (by rw [tameP,h];rfl) hb
end Go.Proofs.YtkpcmfgeanlcnabGreatDoor

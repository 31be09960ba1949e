/-
  What is written can be read: the pieces of a shard that is right are read one behind the other, and tell the shard.
-/
import Derived.Test.YtkpcmfgeanlcnabGreatDoorPwA
namespace Go.Proofs.YtkpcmfgeanlcnabGreatDoor
theorem bAt_left {x y:List UInt8} {i:Nat} (h:i < x.length):bAt (x++y) i=bAt x i:=by
  simp only [bAt,List.getD_eq_getElem?_getD]
  rw [List.getElem?_append_left h]
theorem bAt_right {x y:List UInt8} {i:Nat} (h:x.length≤i):bAt (x++y) i=bAt y (i - x.length):=by
  simp only [bAt,List.getD_eq_getElem?_getD]
  rw [List.getElem?_append_right h]
theorem part_self (x y:List UInt8):part (x++y) 0 x.length=x:=by simp [part]
theorem part_rest (x y:List UInt8):part (x++y) x.length y.length=y:=by simp [part]
theorem part_mid (x y z:List UInt8):part (x++(y++z)) x.length y.length=y:=by simp [part]
theorem begE_self (ws x:List UInt8):begE (ws++x) ws=none:=by
  rw [begE_none_iff]
  intro i hi
  rw [bAt_left (by omega)]
  rfl
theorem le_mid (x y z:List UInt8):le (x++(y++z)) x.length y.length=le y 0 y.length:=by
  have:=(at_mid x y z).num y.length 0 (by omega)
  rwa [List.append_assoc,Nat.add_zero] at this
theorem le_leB_lt {n v:Nat} (h:v < 256 ^ n):le (leB n v) 0 n=v:=by rw [le_leB,Nat.mod_eq_of_lt h]
theorem seal_good {s:St} {l:List UInt8} (h:s.sz=l.length+8):sealP s (sealB l)=none∧part (sealB l) 0 ((sealB l).length - 8)=l:=by
  have e1:(sealB l).length - 8=l.length:=by rw [sealB_length];omega
  have e2:part (sealB l) 0 l.length=l:=part_self _ _
  refine ⟨?_,by rw [e1,e2]⟩
  unfold sealP
  rw [if_neg (by rw [sealB_length];omega),e1,e2]
  have e3:part (sealB l) l.length 8=leB 8 (sumOf l):=by
    have:=part_rest l (leB 8 (sumOf l))
    rwa [leB_length] at this
  rw [e3,le_leB_lt (by have:=sumOf_lt l;simpa using this),if_pos rfl]
def blobB (p:List UInt8×Nat):List UInt8:=leB 2 p.1.length++(p.1++leB 4 p.2)
def blobsB (ps:List (List UInt8×Nat)):List UInt8:=ps.flatMap blobB
theorem blobB_length (p:List UInt8×Nat):(blobB p).length=6+p.1.length:=by simp [blobB,leB_length];omega
def Asc:List (List UInt8)→List (List UInt8)→Prop
  | _,[]=>True
  | ns,p :: r=>(1≤p.length∧p.length≤255)∧(0 < ns.length→notBehind p (ns.getD (ns.length - 1) [])=false)∧Asc (ns++[p]) r
theorem asc_of {l:List (List UInt8)} (h:NamesOk l):∀ (r x:List (List UInt8)),l=x++r→Asc x r
  | [],_,_=>trivial
  | p :: r,x,e=>by
    have hx:x.length < l.length:=by rw [e];simp
    have h1:=h x.length hx
    have e1:l.getD x.length []=p:=by rw [e];simp [List.getD_eq_getElem?_getD]
    rw [e1] at h1
    refine ⟨h1.1,fun h0 => ?_,asc_of h r _ (by rw [e];simp)⟩
    have h2:=h1.2 h0
    have e2:l.getD (x.length - 1) []=x.getD (x.length - 1) []:=by
      rw [e];simp only [List.getD_eq_getElem?_getD];rw [List.getElem?_append_left (by omega)]
    rw [e2] at h2
    exact h2
theorem of_asc:∀ (r x:List (List UInt8)),NamesOk x→Asc x r→NamesOk (x++r)
  | [],x,h,_=>by rwa [List.append_nil]
  | p :: r,x,h,ha=>by
    obtain ⟨h1,h2,h3⟩:=ha
    have:=of_asc r (x++[p]) (fun i hi => ?_) h3
    · rwa [List.append_assoc] at this
    · have hi':i < x.length+1:=by simpa using hi
      rcases Nat.lt_or_ge i x.length with q | q
      · have e1:∀ j,j < x.length→(x++[p]).getD j []=x.getD j []:=fun j hj=>by
          simp only [List.getD_eq_getElem?_getD];rw [List.getElem?_append_left hj]
        rw [e1 i q,e1 (i - 1) (by omega)]
        exact h i q
      · obtain rfl:i=x.length:=by omega
        have e1:(x++[p]).getD x.length []=p:=by simp [List.getD_eq_getElem?_getD]
        rw [e1]
        refine ⟨h1,fun h0 => ?_⟩
        have e2:(x++[p]).getD (x.length - 1) []=x.getD (x.length - 1) []:=by
          simp only [List.getD_eq_getElem?_getD];rw [List.getElem?_append_left (by omega)]
        rw [e2]
        exact h2 h0
theorem loop_good:∀ (ps:List (List UInt8×Nat)) (x:List UInt8) (ns:List (List UInt8)) (zs:List Nat),Asc ns (ps.map Prod.fst)→zs.sum+(ps.map Prod.snd).sum≤65536→loopP (x++blobsB ps) ps.length x.length ns zs = .ok (ns++ps.map Prod.fst,zs++ps.map Prod.snd)
  | [],x,ns,zs,_,_=>by
    simp [loopP,blobsB]
  | p :: ps,x,ns,zs,ha,hz=>by
    obtain ⟨nm,z⟩:=p
    obtain ⟨⟨l1,l2⟩,ho,ha⟩:=ha
    simp only [List.map_cons,List.sum_cons] at hz l1 l2 ho ha ⊢
    have eu:x++blobsB ((nm,z) :: ps)=x++(leB 2 nm.length++(nm++(leB 4 z++blobsB ps))):=by simp [blobsB,blobB]
    have eu2:x++blobsB ((nm,z) :: ps)=(x++blobB (nm,z))++blobsB ps:=by simp [blobsB]
    have hl:(x++blobsB ((nm,z) :: ps)).length=x.length+6+nm.length+(blobsB ps).length:=by rw [eu2,List.length_append,List.length_append,blobB_length];simp only;omega
    have e1:le (x++blobsB ((nm,z) :: ps)) x.length 2=nm.length:=by
      rw [eu]
      have:=le_mid x (leB 2 nm.length) (nm++(leB 4 z++blobsB ps))
      rw [leB_length] at this
      rw [this,le_leB_lt (by omega)]
    have e2:part (x++blobsB ((nm,z) :: ps)) (x.length+2) nm.length=nm:=by
      rw [eu,← List.append_assoc]
      have:=part_mid (x++leB 2 nm.length) nm (leB 4 z++blobsB ps)
      rwa [List.length_append,leB_length] at this
    have e3:le (x++blobsB ((nm,z) :: ps)) (x.length+2+nm.length) 4=z:=by
      rw [eu,← List.append_assoc,← List.append_assoc]
      have:=le_mid (x++leB 2 nm.length++nm) (leB 4 z) (blobsB ps)
      rw [List.length_append,List.length_append,leB_length,leB_length] at this
      rw [this,le_leB_lt (by omega)]
    have hb:blob1 (x++blobsB ((nm,z) :: ps)) x.length ns zs = .ok (nm,z):=by
      unfold blob1
      rw [e1,e2,e3,if_neg (by omega),if_neg (fun q=>by rw [ho q.1] at q;exact absurd q.2 (by simp)),if_neg (by omega)]
    show loopP _ (ps.length+1) _ _ _=_
    unfold loopP
    rw [hb]
    simp only
    have:=loop_good ps (x++blobB (nm,z)) (ns++[nm]) (zs++[z]) ha (by simp only [List.sum_append,List.sum_cons,List.sum_nil];omega)
    rw [List.length_append,blobB_length] at this
    rw [eu2,this]
    simp
theorem man_bytes {ns:List (List UInt8)} {zs:List Int} (h:ns.length=zs.length):manTo ns zs ns.length=leB 4 ns.length++blobsB (ns.zip (zs.map Int.toNat)):=by
  unfold manTo blobsB
  congr 1
  rw [List.flatMap_def,List.flatMap_def]
  congr 1
  apply List.ext_getElem
  · simp;omega
  · intro i h1 h2
    have hi:i < ns.length:=by simpa using h1
    have hz:i < zs.length:=by omega
    simp [blobB,List.getD_eq_getElem?_getD,List.getElem?_eq_getElem hi,List.getElem?_eq_getElem hz]
theorem list_good {ns:List (List UInt8)} {zs:List Int} (h:ns.length=zs.length) (hn:NamesOk ns) (hl:ns.length≤1000) (hz:tot zs≤65536):listP (manTo ns zs ns.length) = .ok (ns,zs.map Int.toNat):=by
  have hzl:(zs.map Int.toNat).length=ns.length:=by simp [h]
  have m1:(ns.zip (zs.map Int.toNat)).map Prod.fst=ns:=List.map_fst_zip (by omega)
  have m2:(ns.zip (zs.map Int.toNat)).map Prod.snd=zs.map Int.toNat:=List.map_snd_zip (by omega)
  have hlz:(ns.zip (zs.map Int.toNat)).length=ns.length:=by rw [List.length_zip];omega
  have:=loop_good (ns.zip (zs.map Int.toNat)) (leB 4 ns.length) [] [] (by rw [m1];exact asc_of hn ns [] rfl) (by rw [m2];simpa [tot] using hz)
  rw [m1,m2,hlz,leB_length] at this
  unfold listP
  rw [man_bytes h]
  have e0:le (leB 4 ns.length++blobsB (ns.zip (zs.map Int.toNat))) 0 4=ns.length:=by
    have:=le_mid [] (leB 4 ns.length) (blobsB (ns.zip (zs.map Int.toNat)))
    rw [leB_length] at this
    simp only [List.nil_append,List.length_nil] at this
    rw [this,le_leB_lt (by omega)]
  rw [e0,if_neg (by omega),this]
  rfl
def frL (c:Nat):Nat→List UInt8→List (List UInt8)
  | 0,_=>[]
  | f+1,r=>if r=[] then [] else sealB (r.take c) :: frL c f (r.drop c)
theorem frameB_drop (c:Nat) (r:List UInt8) (k:Nat):frameB c r (k+1)=frameB c (r.drop c) k:=by
  unfold frameB part
  rw [List.drop_drop,List.length_drop,show c+k*c=(k+1)*c by rw [Nat.add_mul,Nat.one_mul,Nat.add_comm],show r.length - (k+1)*c=r.length - c - k*c by rw [Nat.add_mul,Nat.one_mul];omega]
theorem frL_flat {c:Nat} (hc:1≤c):∀ (f:Nat) (r:List UInt8),r.length≤f→(frL c f r).flatten=framesTo c r (nFr c r.length)
  | 0,r,h=>by
    have:r=[]:=List.length_eq_zero_iff.1 (by omega)
    subst this
    have:nFr c 0=0:=by unfold nFr;exact Nat.div_eq_of_lt (by omega)
    simp [frL,framesTo,this]
  | f+1,r,h=>by
    by_cases hr:r=[]
    · subst hr
      have:nFr c 0=0:=by unfold nFr;exact Nat.div_eq_of_lt (by omega)
      simp [frL,framesTo,this]
    · have hp:0 < r.length:=List.length_pos_iff.2 hr
      have hn:nFr c r.length=nFr c (r.drop c).length+1:=by
        unfold nFr
        rw [List.length_drop]
        rcases Nat.lt_or_ge r.length c with q | q
        · rw [show r.length - c=0 by omega,Nat.div_eq_of_lt (show 0+c - 1 < c by omega),Nat.div_eq_of_lt_le] <;> omega
        · rw [show r.length+c - 1=(r.length - c+c - 1)+c by omega,Nat.add_div_right _ (by omega)]
      unfold frL
      rw [if_neg hr,List.flatten_cons,frL_flat hc f (r.drop c) (by rw [List.length_drop];omega),hn]
      unfold framesTo
      rw [List.range_succ_eq_map,List.flatMap_cons]
      congr 1
      · unfold frameB part
        rw [Nat.zero_mul,List.drop_zero,Nat.sub_zero]
        congr 1
        rcases Nat.lt_or_ge r.length c with q | q
        · rw [Nat.min_eq_right (by omega),List.take_of_length_le (by omega),List.take_of_length_le (by omega)]
        · rw [Nat.min_eq_left q]
      · rw [List.flatMap_map]
        refine congrArg (fun g=>(List.range (nFr c (r.drop c).length)).flatMap g) (funext fun k => ?_)
        exact (frameB_drop c r k).symm
theorem run_frames {c:Nat} (hc:1≤c) (ts:List (List UInt8)):∀ (f:Nat) (r:List UInt8) (s:St),r.length≤f→s.nx=(if r=[] then 3 else 2)→s.c=c→s.ln=s.col.length+r.length→(∀ m,m < s.ln→usedI s.k s.i s.tt≤(m:Int)→bAt (s.col++r) m=0) →
    ∃ pl,runP s (frL c f r++ts)=runP { s with col:=s.col++r,nx:=3,pl:=pl } ts
  | 0,r,s,hf,hx,_,_,_=>by
    have:r=[]:=List.length_eq_zero_iff.1 (by omega)
    subst this
    refine ⟨s.pl,?_⟩
    rw [if_pos rfl] at hx
    obtain ⟨k,n,i,c',ns,zs,col,m,ln,tt,nx,pl⟩:=s
    simp only at hx
    subst hx
    simp [frL]
  | f+1,r,s,hf,hx,hsc,hln,hp=>by
    by_cases hr:r=[]
    · subst hr
      refine ⟨s.pl,?_⟩
      rw [if_pos rfl] at hx
      obtain ⟨k,n,i,c',ns,zs,col,m,ln,tt,nx,pl⟩:=s
      simp only at hx
      subst hx
      simp [frL]
    · rw [if_neg hr] at hx
      have hr0:0 < r.length:=List.length_pos_iff.2 hr
      have hsz:s.sz=(r.take c).length+8:=by
        rw [sz2 hx,hsc,hln,Nat.add_sub_cancel_left,List.length_take]
      obtain ⟨g1,g2⟩:=seal_good hsz
      have hpad:padP (r.take c) (usedI s.k s.i s.tt - (s.col.length:Int))=none:=by
        rw [padP_none_iff]
        intro m hm hF
        have hm':m < r.length:=by rw [List.length_take] at hm;omega
        have:=hp (s.col.length+m) (by omega) (by omega)
        rw [bAt_right (by omega),Nat.add_sub_cancel_left] at this
        rw [← this]
        simp only [bAt,List.getD_eq_getElem?_getD]
        rw [List.getElem?_take_of_lt (by rw [List.length_take] at hm;omega)]
      have hr1:readP s (sealB (r.take c)) = .ok { s with col:=s.col++r.take c }:=by
        unfold readP
        rw [if_neg (by omega),if_neg (by omega),if_pos hx]
        unfold frameP
        rw [g1,g2]
        simp only
        rw [hpad]
      have e1:s.col++r.take c++r.drop c=s.col++r:=by rw [List.append_assoc,List.take_append_drop]
      obtain ⟨pl,h⟩:=run_frames hc ts f (r.drop c) (moveP { s with col:=s.col++r.take c } (sealB (r.take c))) (by rw [List.length_drop];omega) (by
          show nextP _=_
          unfold nextP
          simp only
          rw [if_neg (by omega),if_neg (by omega),hln,List.length_append,List.length_take]
          by_cases q:r.drop c=[]
          · rw [if_pos q,if_neg]
            have:=congrArg List.length q
            rw [List.length_drop,List.length_nil] at this
            omega
          · have:=List.length_pos_iff.2 q
            rw [List.length_drop] at this
            rw [if_neg q,if_pos (by omega)]) hsc (by
          show s.ln=(s.col++r.take c).length+_
          rw [hln,List.length_append,List.length_take,List.length_drop]
          omega) (by
          show ∀ m,m < s.ln→usedI s.k s.i s.tt≤(m:Int)→bAt (s.col++r.take c++r.drop c) m=0
          rw [e1]
          exact hp)
      refine ⟨pl,?_⟩
      unfold frL
      rw [if_neg hr,List.cons_append]
      conv=>lhs;unfold runP
      rw [if_pos ⟨by rw [sealB_length];exact hsz.symm,by omega⟩,hr1]
      refine h.trans ?_
      show runP { s with col:=s.col++r.take c++r.drop c,nx:=3,pl:=pl } ts=_
      rw [e1]
def pieces (s:Sh):List (List UInt8):=sealB (headB s (manB s).length) :: sealB (manB s) :: (frL s.C.toNat s.col.length s.col++[magic2])
theorem pieces_flat {s:Sh} (h:1≤s.C):(pieces s).flatten=wrB s:=by
  unfold pieces wrB
  rw [List.flatten_cons,List.flatten_cons,List.flatten_append,frL_flat (by omega) _ _ (Nat.le_refl _)]
  simp [magic2]
def shdOf (s:Sh):Shd:=⟨s.K.toNat,s.N.toNat,s.I.toNat,s.C.toNat,s.ns,s.zs.map Int.toNat,s.col⟩
theorem head_len (s:Sh) (m:Nat):(headB s m).length=24:=by simp [headB,leB_length]
theorem run_head {s:Sh} (hF:s.Fine) {m:Nat} (hm:4≤m) (hm2:m≤300000) (hl:s.col.length≤65536) (ts:List (List UInt8)):runP St0 (sealB (headB s m) :: ts)=runP ⟨s.K.toNat,s.N.toNat,s.I.toNat,s.C.toNat,[],[],[],m,s.col.length,0,1,32⟩ ts:=by
  have hz:St0.sz=(headB s m).length+8:=by rw [head_len];rfl
  obtain ⟨g1,_⟩:=seal_good hz
  have ha:At (sealB (headB s m)) 0 (headB s m):=at_mid [] (headB s m) _
  have hn:∀ j n,j+n≤24→le (sealB (headB s m)) j n=le (headB s m) j n:=fun j n h=>by
    have:=ha.num n j (by rw [head_len];exact h)
    rwa [Nat.zero_add] at this
  obtain ⟨k1,kn,n1,i0,iN,c1,c2⟩:=hF
  have e6:le (sealB (headB s m)) 6 1=s.K.toNat:=by rw [hn 6 1 (by omega)];simp [headB,le,bAt,b8];omega
  have e7:le (sealB (headB s m)) 7 1=s.N.toNat:=by rw [hn 7 1 (by omega)];simp [headB,le,bAt,b8];omega
  have e8:le (sealB (headB s m)) 8 1=s.I.toNat:=by rw [hn 8 1 (by omega)];simp [headB,le,bAt,b8];omega
  have e9:le (sealB (headB s m)) 9 1=0:=by rw [hn 9 1 (by omega)];simp [headB,le,bAt]
  have e10:le (sealB (headB s m)) 10 4=s.C.toNat:=by rw [hn 10 4 (by omega)];simp [headB,le,bAt,leB];omega
  have e14:le (sealB (headB s m)) 14 4=m:=by rw [hn 14 4 (by omega)];simp [headB,le,bAt,leB];omega
  have e18:le (sealB (headB s m)) 18 4=s.col.length:=by rw [hn 18 4 (by omega)];simp [headB,le,bAt,leB];omega
  have e22:le (sealB (headB s m)) 22 2=0:=by rw [hn 22 2 (by omega)];simp [headB,le,bAt,leB]
  have eb:begE (sealB (headB s m)) magic1=none:=by
    have:sealB (headB s m)=magic1++(([b8 s.K,b8 s.N,b8 s.I,0]++(leB 4 s.C.toNat++(leB 4 m++(leB 4 s.col.length++[0,0]))))++leB 8 (sumOf (headB s m))):=by
      unfold sealB
      conv=>lhs;unfold headB
      simp only [List.append_assoc]
      rfl
    rw [this]
    exact begE_self _ _
  have en:numsE (numsP (sealB (headB s m)))=none:=by
    unfold numsP
    rw [e6,e7,e8,e9,e10,e14,e18,e22]
    unfold numsE
    rw [if_neg (by omega)]
    unfold numsE
    rw [if_neg (by omega)]
    unfold numsE
    rw [if_neg (by omega)]
    unfold numsE
    rw [if_neg (by omega)]
    unfold numsE
    rw [if_neg (by omega)]
    unfold numsE
    rw [if_neg (by omega)]
    unfold numsE
    rw [if_neg (by omega)]
    unfold numsE
    rw [if_neg (by omega)]
    rfl
  have hr:readP St0 (sealB (headB s m)) = .ok ⟨s.K.toNat,s.N.toNat,s.I.toNat,s.C.toNat,[],[],[],m,s.col.length,0,0,0⟩:=by
    unfold readP
    rw [if_pos (show St0.nx=0 from rfl)]
    unfold headP
    rw [eb]
    simp only
    rw [g1]
    simp only
    rw [en]
    simp only
    rw [e6,e7,e8,e10,e14,e18]
    rfl
  conv=>lhs;unfold runP
  rw [if_pos ⟨by rw [sealB_length];exact hz.symm,by decide⟩,hr]
  simp only
  unfold moveP
  rw [sealB_length,head_len]
  rfl
theorem run_man {s:Sh} (hL:s.Listed) (hW:s.Few) (hG:s.Long) (ts:List (List UInt8)):∃ pl,runP ⟨s.K.toNat,s.N.toNat,s.I.toNat,s.C.toNat,[],[],[],(manB s).length,s.col.length,0,1,32⟩ (sealB (manB s) :: ts)=runP ⟨s.K.toNat,s.N.toNat,s.I.toNat,s.C.toNat,s.ns,s.zs.map Int.toNat,[],(manB s).length,s.col.length,tot s.zs,if s.col=[] then 3 else 2,pl⟩ ts:=by
  obtain ⟨g1,g2⟩:=seal_good (s:=⟨s.K.toNat,s.N.toNat,s.I.toNat,s.C.toNat,[],[],[],(manB s).length,s.col.length,0,1,32⟩) (l:=manB s) (sz1 rfl)
  have hl:listP (manB s) = .ok (s.ns,s.zs.map Int.toNat):=list_good hL.len hL.names hW.blobs hW.bytes
  have hr:readP ⟨s.K.toNat,s.N.toNat,s.I.toNat,s.C.toNat,[],[],[],(manB s).length,s.col.length,0,1,32⟩ (sealB (manB s)) = .ok ⟨s.K.toNat,s.N.toNat,s.I.toNat,s.C.toNat,s.ns,s.zs.map Int.toNat,[],(manB s).length,s.col.length,tot s.zs,1,32⟩:=by
    unfold readP
    rw [if_neg (by simp),if_pos rfl]
    unfold manP
    rw [g1,g2]
    simp only
    rw [hl]
    simp only
    rw [if_pos (by exact hG)]
    rfl
  refine ⟨32+((manB s).length+8),?_⟩
  conv=>lhs;unfold runP
  rw [if_pos ⟨by rw [sealB_length,sz1 rfl],by simp⟩,hr]
  simp only
  unfold moveP
  rw [sealB_length]
  simp only
  congr 2
  unfold nextP
  simp only
  rw [if_neg (by decide),if_neg (by decide)]
  by_cases q:s.col=[]
  · rw [if_pos q,if_neg (by rw [q];simp)]
  · have:=List.length_pos_iff.2 q
    rw [if_neg q,if_pos (by simpa using this)]
theorem run_wr {s:Sh} (hF:s.Fine) (hL:s.Listed) (hW:s.Few) (hG:s.Long) (hB:¬ s.Bad):∃ st,runP St0 (pieces s)=some st∧st.nx=4∧st.shd=shdOf s:=by
  have hk:1≤s.K.toNat:=by have:=hF.k1;omega
  have hl:s.col.length≤65536:=by
    have h1:=lenC_le (t:=tot s.zs) hk
    have h2:=hW.bytes
    have h3:s.col.length=_:=hG
    omega
  have hm:(manB s).length=manN s.ns:=manB_length s
  have hm4:4≤manN s.ns:=by unfold manN;omega
  unfold pieces
  rw [run_head hF (by omega) (by have:=hW.man;omega) hl]
  obtain ⟨p1,e1⟩:=run_man hL hW hG (frL s.C.toNat s.col.length s.col++[magic2])
  rw [e1]
  obtain ⟨p2,e2⟩:=run_frames (c:=s.C.toNat) (by have:=hF.c1;omega) [magic2] s.col.length s.col ⟨s.K.toNat,s.N.toNat,s.I.toNat,s.C.toNat,s.ns,s.zs.map Int.toNat,[],(manB s).length,s.col.length,tot s.zs,if s.col=[] then 3 else 2,p1⟩ (Nat.le_refl _) rfl rfl (by simp) (by
    intro m hm hu
    simp only [List.nil_append] at hm hu ⊢
    by_cases q:bAt s.col m=0
    · exact q
    · exfalso
      have h3:s.col.length=_:=hG
      unfold usedI at hu
      by_cases hki:s.K.toNat≤s.I.toNat
      · rw [if_pos hki] at hu
        omega
      · rw [if_neg hki] at hu
        refine hB ⟨by have:=hF.k1;omega,m,hm,?_,q⟩
        omega)
  rw [e2]
  refine ⟨moveP ⟨s.K.toNat,s.N.toNat,s.I.toNat,s.C.toNat,s.ns,s.zs.map Int.toNat,[]++s.col,(manB s).length,s.col.length,tot s.zs,3,p2⟩ magic2,?_,?_,?_⟩
  · unfold runP
    rw [if_pos ⟨(sz3 rfl).symm,by simp⟩]
    have:readP ⟨s.K.toNat,s.N.toNat,s.I.toNat,s.C.toNat,s.ns,s.zs.map Int.toNat,[]++s.col,(manB s).length,s.col.length,tot s.zs,3,p2⟩ magic2 = .ok ⟨s.K.toNat,s.N.toNat,s.I.toNat,s.C.toNat,s.ns,s.zs.map Int.toNat,[]++s.col,(manB s).length,s.col.length,tot s.zs,3,p2⟩:=by
      unfold readP
      rw [if_neg (by simp),if_neg (by simp),if_neg (by simp)]
      unfold tailP
      have:begE magic2 magic2=none:=by simpa using begE_self magic2 []
      rw [this]
      simp only
      rw [if_neg (by rw [sz3 rfl];decide)]
    simp only at this ⊢
    rw [this]
    rfl
  · rfl
  · simp [St.shd,shdOf,moveP]
theorem parse_wr {s:Sh} (hF:s.Fine) (hL:s.Listed) (hW:s.Few) (hG:s.Long) (hB:¬ s.Bad) (x:List UInt8):parseE (wrB s++x)=if x=[] then .ok (shdOf s) else .error (9,(wrB s).length):=by
  obtain ⟨st,h1,h2,h3⟩:=run_wr hF hL hW hG hB
  rw [← pieces_flat hF.c1,← h3]
  exact parse_run h1 h2 x
theorem parse_wr_cut {s:Sh} (hF:s.Fine) (hL:s.Listed) (hW:s.Few) (hG:s.Long) (hB:¬ s.Bad) {m:Nat} (hm:m < (wrB s).length):parseE ((wrB s).take m) = .error (4,m):=by
  obtain ⟨st,h1,h2,h3⟩:=run_wr hF hL hW hG hB
  rw [← pieces_flat hF.c1] at hm ⊢
  exact parse_short h1 hm
theorem part_split (z:List UInt8) (a n m:Nat):part z a (n+m)=part z a n++part z (a+n) m:=by
  unfold part
  rw [List.take_add,List.drop_drop]
theorem part_leB {z:List UInt8} {a n:Nat} (h:a+n≤z.length):part z a n=leB n (le z a n):=by
  have h1:=leB_le (part z a n)
  rw [part_length h,le_part h] at h1
  exact h1.symm
theorem seal_inv {z:List UInt8} {a n:Nat} (h:sealE z a n=none):a+n+8≤z.length∧part z a (n+8)=sealB (part z a n):=by
  have hl:=sealE_len h
  refine ⟨hl,?_⟩
  unfold sealE at h
  rw [if_neg (by omega)] at h
  split at h
  · rename_i e
    rw [part_split,e]
    rfl
  · cases h
theorem fix_inv (z:List UInt8):∀ (ws:List UInt8) (a:Nat),a≤z.length→fixE z a ws=none→a+ws.length≤z.length∧part z a ws.length=ws
  | [],a,ha,_=>⟨ha,by simp [part]⟩
  | c :: ws,a,_,h=>by
    unfold fixE at h
    split at h
    · cases h
    · rename_i hl
      split at h
      · rename_i hc
        obtain ⟨h1,h2⟩:=fix_inv z ws (a+1) (by omega) h
        refine ⟨by rw [List.length_cons];omega,?_⟩
        rw [List.length_cons,Nat.add_comm,part_split,h2,part_leB (by omega)]
        show UInt8.ofNat ((bAt z a+256*0) % 256) :: ([]++ws)=_
        rw [hc]
        have:=UInt8.toNat_lt c
        rw [show (c.toNat+256*0) % 256=c.toNat by omega]
        simp
      · cases h
theorem loop_inv (u:List UInt8):∀ (c a:Nat) (ns:List (List UInt8)) (zs:List Nat) (ns':List (List UInt8)) (zs':List Nat),a≤u.length→loopP u c a ns zs = .ok (ns',zs') →
    ∃ ps:List (List UInt8×Nat),ps.length=c∧ns' = ns++ps.map Prod.fst∧zs' = zs++ps.map Prod.snd∧u.drop a=blobsB ps∧Asc ns (ps.map Prod.fst)
  | 0,a,ns,zs,ns',zs',ha,h=>by
    unfold loopP at h
    split at h
    · cases h
    · cases h
      refine ⟨[],rfl,by simp,by simp,?_,trivial⟩
      rw [List.drop_eq_nil_of_le (by omega)]
      rfl
  | c+1,a,ns,zs,ns',zs',ha,h=>by
    unfold loopP at h
    cases hb:blob1 u a ns zs with
    | error e=>rw [hb] at h;cases h
    | ok x=>
      obtain ⟨nm,z⟩:=x
      rw [hb] at h
      simp only at h
      unfold blob1 at hb
      split at hb
      · cases hb
      · rename_i q1
        split at hb
        · cases hb
        · rename_i q2
          split at hb
          · cases hb
          · rename_i q3
            simp only [Except.ok.injEq,Prod.mk.injEq] at hb
            obtain ⟨e1,e2⟩:=hb
            have hl:nm.length=le u a 2:=by rw [← e1];exact part_length (by omega)
            obtain ⟨ps,g1,g2,g3,g4,g5⟩:=loop_inv u c _ _ _ _ _ (by rw [hl];omega) h
            refine ⟨(nm,z) :: ps,by simp [g1],by simp [g2],by simp [g3],?_,⟨by simp only;omega,fun h0 => ?_,g5⟩⟩
            · have d1:u.drop a=part u a 2++(part u (a+2) (le u a 2)++(part u (a+2+le u a 2) 4++u.drop (a+(6+nm.length)))):=by
                have t:∀ b n,u.drop b=part u b n++u.drop (b+n):=fun b n=>by
                  unfold part
                  rw [← List.drop_drop,List.take_append_drop]
                rw [t a 2,t (a+2) (le u a 2),t (a+2+le u a 2) 4,hl,show a+2+le u a 2+4=a+(6+le u a 2) by omega]
              rw [d1,g4,part_leB (a:=a) (n:=2) (by omega),e1,part_leB (a:=a+2+le u a 2) (n:=4) (by omega),e2,← hl]
              simp [blobsB,blobB]
            · have:=fun q=>q2 ⟨h0,q⟩
              rw [e1] at this
              simpa using this
theorem pad_inv {en:Int}:∀ {p:List UInt8} {a m:Nat},padE en a m p=none→∀ j,j < p.length→en≤((m+j:Nat):Int)→bAt p j=0
  | [],_,_,_,j,hj,_=>by simp at hj
  | b :: p,a,m,h,j,hj,he=>by
    unfold padE at h
    split at h
    · rename_i q
      cases j with
      | zero=>
        rcases q with q | q
        · omega
        · simpa [bAt] using q
      | succ j=>
        rw [bAt_cons]
        exact pad_inv h j (by simpa using hj) (by omega)
    · cases h
theorem frames_inv {z:List UInt8} {low:Bool} {c ln:Nat} {en:Int} (hc:1≤c):∀ (f a:Nat) (col col':List UInt8) (a':Nat),framesE z low c ln en f a col = .ok (col',a')→col.length≤ln→ln≤f+col.length→a≤z.length →
    ∃ r,col' = col++r∧col'.length=ln∧a≤a' ∧ a' ≤ z.length∧part z a (a' - a)=(frL c f r).flatten∧(low=true→∀ j,j < r.length→en≤((col.length+j:Nat):Int)→bAt r j=0)
  | 0,a,col,col',a',h,h1,h2,h3=>by
    unfold framesE at h
    cases h
    exact ⟨[],by simp,by omega,Nat.le_refl _,h3,by simp [part,frL],fun _ j hj=>by simp at hj⟩
  | f+1,a,col,col',a',h,h1,h2,h3=>by
    unfold framesE at h
    split at h
    · cases h
      exact ⟨[],by simp,by omega,Nat.le_refl _,h3,by simp [part,frL],fun _ j hj=>by simp at hj⟩
    · rename_i hlt
      cases hs:sealE z a (min (ln - col.length) c) with
      | some e=>rw [hs] at h;cases h
      | none=>
        rw [hs] at h
        simp only at h
        obtain ⟨s1,s2⟩:=seal_inv hs
        cases hp:(if low=true then padE en a col.length (part z a (min (ln - col.length) c)) else none) with
        | some e=>rw [hp] at h;cases h
        | none=>
          rw [hp] at h
          simp only at h
          have hpl:(part z a (min (ln - col.length) c)).length=min (ln - col.length) c:=part_length (by omega)
          obtain ⟨r,g1,g2,g3,g4,g5,g6⟩:=frames_inv hc f _ _ _ _ h (by rw [List.length_append,hpl];omega) (by rw [List.length_append,hpl];omega) (by omega)
          have hr:r.length=ln - col.length - min (ln - col.length) c:=by
            have:=congrArg List.length g1
            rw [List.length_append,List.length_append,hpl,g2] at this
            omega
          have ht:(part z a (min (ln - col.length) c)++r).take c=part z a (min (ln - col.length) c)∧(part z a (min (ln - col.length) c)++r).drop c=r:=by
            rcases Nat.lt_or_ge (ln - col.length) c with q | q
            · have:r=[]:=List.length_eq_zero_iff.1 (by omega)
              rw [this,List.append_nil,List.take_of_length_le (by omega),List.drop_eq_nil_of_le (by omega)]
              exact ⟨rfl,rfl⟩
            · have:c=(part z a (min (ln - col.length) c)).length:=by omega
              constructor
              · conv=>lhs;arg 1;rw [this]
                simp
              · conv=>lhs;arg 1;rw [this]
                simp
          refine ⟨part z a (min (ln - col.length) c)++r,by rw [g1,List.append_assoc],g2,by omega,g4,?_,fun hlow j hj he => ?_⟩
          · unfold frL
            rw [if_neg,ht.1,ht.2,List.flatten_cons,← g5,← s2]
            · rw [show a' - a=(min (ln - col.length) c+8)+(a' - (a+min (ln - col.length) c+8)) by omega,part_split,Nat.add_assoc a]
            · intro e
              have:=congrArg List.length e
              rw [List.length_append,hpl] at this
              simp at this
              omega
          · rcases Nat.lt_or_ge j (min (ln - col.length) c) with q | q
            · rw [bAt_left (by omega)]
              rw [if_pos hlow] at hp
              exact pad_inv hp j (by omega) he
            · rw [bAt_right (by omega),hpl]
              refine g6 hlow _ (by rw [List.length_append,hpl] at hj;omega) ?_
              rw [List.length_append,hpl]
              omega
theorem zip_self:∀ (ps:List (List UInt8×Nat)),(ps.map Prod.fst).zip (ps.map Prod.snd)=ps
  | []=>rfl
  | p :: ps=>by
    rw [List.map_cons,List.map_cons,List.zip_cons_cons,zip_self ps]
def Shd.sh (d:Shd):Sh:=⟨d.k,d.n,d.i,d.c,d.names,d.sizes.map Int.ofNat,d.col⟩
theorem toNat_ofNats (l:List Nat):(l.map Int.ofNat).map Int.toNat=l:=by
  rw [List.map_map]
  conv=>rhs;rw [← List.map_id l]
  rfl
set_option maxHeartbeats 1000000 in
theorem parse_inv {z:List UInt8} {d:Shd} (h:parseE z = .ok d):d.sh.Fine∧d.sh.Listed∧d.sh.Few∧d.sh.Long∧¬ d.sh.Bad∧wrB d.sh=z:=by
  unfold parseE at h
  cases hh:headE z with
  | some e=>rw [hh] at h;cases h
  | none=>
    rw [hh] at h
    simp only at h
    cases hn:namesE z (le z 14 4) with
    | error e=>rw [hn] at h;cases h
    | ok x=>
      obtain ⟨ns,zs⟩:=x
      rw [hn] at h
      simp only at h
      split at h
      · rename_i hlen
        split at h
        · cases h
        · rename_i col a hf
          split at h
          · cases h
          · rename_i ho
            cases h
            unfold headE at hh
            cases h1:fixE z 0 magic1 with
            | some e=>rw [h1] at hh;cases hh
            | none=>
              rw [h1] at hh
              cases h2:sealE z 0 24 with
              | some e=>rw [h2] at hh;cases hh
              | none=>
                rw [h2] at hh
                have hr:headR none (le z 6 1) (le z 7 1) (le z 8 1) (le z 9 1) (le z 10 4) (le z 14 4) (le z 18 4) (le z 22 2)=none:=hh
                obtain ⟨k1,k2,n1,n2,iN,z0,c1,c2,m1,m2,l1,y0⟩:=headR_none hr
                obtain ⟨s1,s2⟩:=seal_inv h2
                obtain ⟨_,f2⟩:=fix_inv z magic1 0 (by omega) h1
                unfold namesE at hn
                cases h3:sealE z 32 (le z 14 4) with
                | some e=>rw [h3] at hn;cases hn
                | none=>
                  rw [h3] at hn
                  simp only at hn
                  obtain ⟨t1,t2⟩:=seal_inv h3
                  split at hn
                  · cases hn
                  · rename_i hcnt
                    have hu:(part z 32 (le z 14 4)).length=le z 14 4:=part_length (by omega)
                    have hA:At z 32 (part z 32 (le z 14 4)):=At.of_part z (by omega)
                    have e4:le z 32 4=le (part z 32 (le z 14 4)) 0 4:=by
                      have:=hA.num 4 0 (by omega)
                      rwa [Nat.add_zero] at this
                    rw [show (36:Nat)=32+4 from rfl,loop_blobs hA hu _ 4 [] [] (by omega) (by simp)] at hn
                    cases hl:loopP (part z 32 (le z 14 4)) (le z 32 4) 4 [] [] with
                    | error e=>rw [hl] at hn;cases hn
                    | ok x=>
                      rw [hl] at hn
                      cases hn
                      have hsum:=loopP_sum _ _ _ _ _ (by simp) hl
                      obtain ⟨ps,g1,g2,g3,g4,g5⟩:=loop_inv _ _ _ _ _ _ _ (by omega) hl
                      rw [List.nil_append] at g2 g3
                      have hnl:ns.length=le z 32 4:=by rw [g2,List.length_map,g1]
                      have hzl:zs.length=le z 32 4:=by rw [g3,List.length_map,g1]
                      have htot:tot (zs.map Int.ofNat)=zs.sum:=by unfold tot;rw [toNat_ofNats]
                      have hman:manTo ns (zs.map Int.ofNat) ns.length=part z 32 (le z 14 4):=by
                        rw [man_bytes (by rw [List.length_map];omega),toNat_ofNats,g2,g3,zip_self,← g2,hnl,← g4,e4]
                        have h0:=part_leB (z:=part z 32 (le z 14 4)) (a:=0) (n:=4) (by omega)
                        rw [← h0]
                        unfold part
                        rw [List.drop_zero,List.take_append_drop]
                      obtain ⟨r,q1,q2,q3,q4,q5,q6⟩:=frames_inv c1 _ _ _ _ _ hf (by simp) (by simp) (by omega)
                      rw [List.nil_append] at q1
                      subst q1
                      cases h5:fixE z a magic2 with
                      | some e=>rw [h5] at ho;cases ho
                      | none=>
                        rw [h5] at ho
                        have hz:z.length≤a+4:=by
                          rcases Nat.lt_or_ge (a+4) z.length with q | q
                          · have:mustE (decide (z.length≤a+4)) 9 (a+4)=none:=ho
                            rw [decide_eq_false (by omega)] at this
                            cases this
                          · exact q
                        obtain ⟨v1,v2⟩:=fix_inv z magic2 a q4 h5
                        have v1':a+4≤z.length:=v1
                        have hLong:le z 18 4=lenC (le z 6 1) zs.sum:=by rw [hlen,lengthS_small hsum]
                        refine ⟨⟨?_,?_,?_,?_,?_,?_,?_⟩,⟨?_,?_,?_⟩,⟨?_,?_,?_⟩,?_,?_,?_⟩
                        · show (1:Int)≤(le z 6 1:Nat);omega
                        · show ((le z 6 1:Nat):Int)≤(le z 7 1:Nat);omega
                        · show ((le z 7 1:Nat):Int)≤128;omega
                        · show (0:Int)≤(le z 8 1:Nat);omega
                        · show ((le z 8 1:Nat):Int) < (le z 7 1:Nat);omega
                        · show (1:Int)≤(le z 10 4:Nat);omega
                        · show ((le z 10 4:Nat):Int)≤65536;omega
                        · show ns.length=(zs.map Int.ofNat).length
                          rw [List.length_map];omega
                        · show NamesOk ns
                          have:=of_asc (ps.map Prod.fst) [] (fun i hi=>by simp at hi) g5
                          rwa [List.nil_append,← g2] at this
                        · intro i hi
                          have hi':i < zs.length:=by simpa [Shd.sh] using hi
                          simp [Shd.sh,List.getD_eq_getElem?_getD,List.getElem?_eq_getElem hi']
                        · show ns.length≤1000;omega
                        · show tot (zs.map Int.ofNat)≤65536
                          rw [htot];exact hsum
                        · show manN ns≤300000
                          have:=manB_length (⟨0,0,0,0,ns,zs.map Int.ofNat,[]⟩:Sh)
                          have e:manB (⟨0,0,0,0,ns,zs.map Int.ofNat,[]⟩:Sh)=part z 32 (le z 14 4):=hman
                          rw [e,hu] at this
                          have:le z 14 4=manN ns:=this
                          omega
                        · show col.length=lenC (le z 6 1) (tot (zs.map Int.ofNat))
                          rw [htot,q2,hLong]
                        · rintro ⟨b1,m,b2,b3,b4⟩
                          have b1':((le z 8 1:Nat):Int) < (le z 6 1:Nat):=b1
                          have b2':m < col.length:=b2
                          have b3':tot (zs.map Int.ofNat)≤le z 8 1*lenC (le z 6 1) (tot (zs.map Int.ofNat))+m:=b3
                          rw [htot] at b3'
                          refine b4 (q6 (by simp;omega) m b2' ?_)
                          have e1:totalS zs=zs.sum:=by unfold totalS;rw [if_pos hsum]
                          rw [e1,lengthS_small hsum]
                          simp only [List.length_nil,Nat.zero_add]
                          omega
                        · have w1:headB (Shd.sh ⟨le z 6 1,le z 7 1,le z 8 1,le z 10 4,ns,zs,col⟩) (le z 14 4)=part z 0 24:=by
                            have e1:part z 0 24=part z 0 6++(part z 6 1++(part z 7 1++(part z 8 1++(part z 9 1++(part z 10 4++(part z 14 4++(part z 18 4++part z 22 2))))))):=by
                              exact (part_split z 0 6 18).trans (congrArg _ ((part_split z 6 1 17).trans (congrArg _ ((part_split z 7 1 16).trans (congrArg _ ((part_split z 8 1 15).trans (congrArg _ ((part_split z 9 1 14).trans (congrArg _ ((part_split z 10 4 10).trans (congrArg _ ((part_split z 14 4 6).trans (congrArg _ (part_split z 18 4 2))))))))))))))
                            have f2':part z 0 6=[67,65,73,82,78,49]:=f2
                            rw [e1,f2',part_leB (a:=6) (by omega),part_leB (a:=7) (by omega),part_leB (a:=8) (by omega),part_leB (a:=9) (by omega),part_leB (a:=10) (by omega),part_leB (a:=14) (by omega),part_leB (a:=18) (by omega),part_leB (a:=22) (by omega),z0,y0]
                            unfold headB
                            show [67,65,73,82,78,49]++([b8 (le z 6 1:Nat),b8 (le z 7 1:Nat),b8 (le z 8 1:Nat),0]++(leB 4 (le z 10 4)++(leB 4 (le z 14 4)++(leB 4 col.length++[0,0]))))=_
                            rw [q2]
                            rfl
                          have w2:manB (Shd.sh ⟨le z 6 1,le z 7 1,le z 8 1,le z 10 4,ns,zs,col⟩)=part z 32 (le z 14 4):=hman
                          unfold wrB
                          rw [w2,hu,w1,← s2,← t2]
                          show part z 0 32++part z 32 (le z 14 4+8)++framesTo (le z 10 4) col (nFr (le z 10 4) col.length)++[68,79,78,69]=z
                          rw [← frL_flat c1 (le z 18 4) col (by omega),← q5]
                          have v2':part z a 4=[68,79,78,69]:=v2
                          rw [← v2']
                          have q3':32+le z 14 4+8≤a:=q3
                          rw [show part z 0 32=part z 0 (0+32) from rfl]
                          have j1:=part_split z 0 32 (le z 14 4+8)
                          have j2:=part_split z 0 (32+(le z 14 4+8)) (a - (32+le z 14 4+8))
                          have j3:=part_split z 0 a 4
                          simp only [Nat.zero_add] at j1 j2 j3 ⊢
                          rw [← j1]
                          rw [show 32+(le z 14 4+8)=32+le z 14 4+8 by omega] at j2 ⊢
                          rw [← j2,show 32+le z 14 4+8+(a - (32+le z 14 4+8))=a by omega,← j3,show a+4=z.length by omega]
                          unfold part
                          simp
      · cases h
end Go.Proofs.YtkpcmfgeanlcnabGreatDoor

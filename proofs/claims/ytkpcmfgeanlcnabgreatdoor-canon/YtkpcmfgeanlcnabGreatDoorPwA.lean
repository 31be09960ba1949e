/-
  How the program reads a shard, in plain words: piece by piece; the frames, the tail, and the whole are the document's.
-/
import Derived.Test.YtkpcmfgeanlcnabGreatDoorPlB
namespace Go.Proofs.YtkpcmfgeanlcnabGreatDoor
theorem padP_some_iff {u:List UInt8} {F:Int} {m:Nat}:padP u F=some m↔m < u.length∧(F≤(m:Int)∧bAt u m≠0)∧∀ j,j < m→F≤(j:Int)→bAt u j=0:=by
  unfold padP
  rw [List.find?_range_eq_some]
  constructor
  · rintro ⟨h1,h2,h3⟩
    refine ⟨by simpa using h2,by simpa using h1,fun j hj hF => ?_⟩
    have:=h3 j hj
    simp only [Bool.not_eq_true',decide_eq_false_iff_not,not_and,Decidable.not_not] at this
    exact this hF
  · rintro ⟨h1,h2,h3⟩
    refine ⟨by simpa using h2,by simpa using h1,fun j hj => ?_⟩
    simp only [Bool.not_eq_true',decide_eq_false_iff_not,not_and,Decidable.not_not]
    exact h3 j hj
theorem padP_none_iff {u:List UInt8} {F:Int}:padP u F=none↔∀ m,m < u.length→F≤(m:Int)→bAt u m=0:=by
  unfold padP
  rw [List.find?_eq_none]
  constructor
  · intro h m hm hF
    have:=h m (by simpa using hm)
    simp only [decide_eq_true_eq,not_and,Decidable.not_not] at this
    exact this hF
  · intro h m hm
    simp only [decide_eq_true_eq,not_and,Decidable.not_not]
    exact h m (by simpa using hm)
theorem padE_none {en:Int}:∀ {p:List UInt8} {a m:Nat},(∀ j,j < p.length→en≤((m+j:Nat):Int)→bAt p j=0)→padE en a m p=none
  | [],_,_,_=>rfl
  | b :: p,a,m,h=>by
    have h0:(m:Int) < en∨b.toNat=0:=by
      rcases Int.lt_or_le (m:Int) en with x | x
      · exact .inl x
      · exact .inr (h 0 (by simp) x)
    unfold padE
    rw [if_pos h0]
    refine padE_none (fun j hj hx => ?_)
    have:=h (j+1) (by simpa using hj) (by omega)
    rwa [bAt_cons] at this
theorem padE_some {en:Int}:∀ {p:List UInt8} {a m:Nat} (i:Nat),i < p.length→en≤((m+i:Nat):Int)→bAt p i≠0→(∀ j,j < i→en≤((m+j:Nat):Int)→bAt p j=0)→padE en a m p=some (8,a+i)
  | [],_,_,_,h,_,_,_=>by simp at h
  | b :: p,a,m,0,_,h2,h3,_=>by
    unfold padE
    have:¬ ((m:Int) < en∨b.toNat=0):=by
      rintro (x | x)
      · omega
      · exact h3 x
    rw [if_neg this];rfl
  | b :: p,a,m,i+1,h1,h2,h3,h4=>by
    have h0:(m:Int) < en∨b.toNat=0:=by
      rcases Int.lt_or_le (m:Int) en with x | x
      · exact .inl x
      · exact .inr (h4 0 (by omega) x)
    unfold padE
    rw [if_pos h0]
    rw [padE_some (p:=p) (a:=a+1) (m:=m+1) i (by simpa using h1) (by omega) (by rwa [bAt_cons] at h3) (fun j hj hx => ?_),show a+1+i=a+(i+1) by omega]
    have:=h4 (j+1) (by omega) (by omega)
    rwa [bAt_cons] at this
theorem pad_P {k i tt cl a:Nat} {u:List UInt8} (hu:cl+u.length≤lenC k tt):(if decide (i < k) then padE ((tt:Int) - ((i*lenC k tt:Nat):Int)) a cl u else none)=(padP u (usedI k i tt - (cl:Int))).map (fun m=>(8,a+m)):=by
  by_cases hik:i < k
  · rw [decide_eq_true hik,if_pos rfl]
    have hU:usedI k i tt=max 0 (min (lenC k tt:Int) ((tt:Int) - ((i*lenC k tt:Nat):Int))):=by unfold usedI;rw [if_neg (by omega)]
    rw [hU]
    generalize ((tt:Int) - ((i*lenC k tt:Nat):Int))=en
    generalize lenC k tt=L at *
    cases hp:padP u (max 0 (min (L:Int) en) - (cl:Int)) with
    | none=>
      rw [padP_none_iff] at hp
      rw [padE_none (fun j hj hx=>hp j hj (by omega))];rfl
    | some m=>
      rw [padP_some_iff] at hp
      obtain ⟨h1,⟨h2,h3⟩,h4⟩:=hp
      rw [padE_some m h1 (by omega) h3 (fun j hj hx=>h4 j hj (by omega))];rfl
  · rw [decide_eq_false hik,if_neg (by simp)]
    have hU:usedI k i tt=(lenC k tt:Int):=by unfold usedI;rw [if_pos (by omega)]
    rw [hU]
    have:padP u ((lenC k tt:Int) - (cl:Int))=none:=by
      rw [padP_none_iff]
      intro m hm hF
      omega
    rw [this];rfl
theorem frame_P {s:St} {Z t:List UInt8} (h0:s.nx=2) (hm:Man s Z) (h1:s.col.length < s.ln) (hc:1≤s.c) (f:Nat) (hf:s.ln≤f+s.col.length) (he:frE s Z s.ln (32+s.m+8) []=frE s Z f s.pl s.col) (hA:At Z s.pl t) (ht:t.length≤s.sz) :
    (∀ e,frameP s t = .error e→(e.1=4→Z.length=s.pl+t.length)→parseE Z = .error e) ∧
    (∀ s',frameP s t = .ok s' → t.length=s.sz∧Man s' Z∧s'.nx=2∧s'.pl=s.pl∧s'.ln=s.ln∧s'.col.length≤s'.ln∧∃ f',s.ln≤f' + s'.col.length∧frE s' Z s'.ln (32+s'.m+8) []=frE s' Z f' (s.pl+t.length) s'.col):=by
  have hz:=sz2 h0
  obtain ⟨f,rfl⟩:∃ g,f=g+1:=⟨f - 1,by omega⟩
  have hstep:frE s Z (f+1) s.pl s.col=match sealE Z s.pl (min (s.ln - s.col.length) s.c) with
      | some e=>.error e
      | none=>match (if decide (s.i < s.k) then padE ((totalS s.zs:Int) - ((s.i*lengthS s.k s.zs:Nat):Int)) s.pl s.col.length (part Z s.pl (min (s.ln - s.col.length) s.c)) else none) with
        | some e=>.error e
        | none=>frE s Z f (s.pl+min (s.ln - s.col.length) s.c+8) (s.col++part Z s.pl (min (s.ln - s.col.length) s.c)):=by
    unfold frE
    rw [framesE,if_neg (by omega)]
    all_goals rfl
  have hts:totalS s.zs=s.tt:=by unfold totalS;rw [if_pos hm.small,hm.tt]
  have hlS:lengthS s.k s.zs=lenC s.k s.tt:=by rw [lengthS_small hm.small,hm.tt]
  rw [Nat.min_comm] at hz
  obtain ⟨q,eq⟩:∃ q,min (s.ln - s.col.length) s.c=q:=⟨_,rfl⟩
  rw [eq] at hz hstep
  have hq1:1≤q:=by omega
  have hq2:s.col.length+q≤s.ln:=by omega
  unfold frameP
  cases hs:sealP s t with
  | some x=>
    refine ⟨fun e hx h4 => ?_,fun s' hx=>by cases hx⟩
    cases hx
    obtain ⟨h5,_⟩:=seal_P hA hz ht hs (fun p hp=>by cases hp;exact h4 rfl)
    refine parse_of_frames hm ?_
    rw [he,hstep,h5]
  | none=>
    obtain ⟨h5,h6⟩:=seal_P hA hz ht hs (fun p hp=>by cases hp)
    have hl:=h6 rfl
    have hP:part Z s.pl q=part t 0 q:=hA.cut (j:=0) (by omega)
    have hPl:(part t 0 q).length=q:=part_length (by omega)
    rw [h5,hts,hlS,hP] at hstep
    simp only at hstep
    rw [pad_P (u:=part t 0 q) (by rw [hPl,← hlS,← hm.long];omega)] at hstep
    simp only
    rw [hl,Nat.add_sub_cancel]
    cases hp:padP (part t 0 q) (usedI s.k s.i s.tt - (s.col.length:Int)) with
    | some m=>
      refine ⟨fun e hx _ => ?_,fun s' hx=>by cases hx⟩
      cases hx
      refine parse_of_frames hm ?_
      rw [he,hstep,hp];rfl
    | none=>
      refine ⟨fun e hx=>(by cases hx),fun s' hx => ?_⟩
      cases hx
      refine ⟨by omega,⟨⟨hm.head.ok,hm.head.k,hm.head.n,hm.head.i,hm.head.c,hm.head.m,hm.head.ln⟩,hm.names,hm.long,hm.tt,hm.small⟩,h0,rfl,rfl,?_,f,?_,?_⟩
      · simp only [List.length_append];rw [hPl];exact hq2
      · simp only [List.length_append];rw [hPl];omega
      · rw [hp] at hstep
        have:frE s Z s.ln (32+s.m+8) []=frE s Z f (s.pl+q+8) (s.col++part t 0 q):=by rw [he,hstep];rfl
        unfold frE at this ⊢
        rw [← Nat.add_assoc]
        exact this
theorem tail_P {s:St} {Z t:List UInt8} (h0:s.nx=3) (hm:Man s Z) (he:frE s Z s.ln (32+s.m+8) [] = .ok (s.col,s.pl)) (hA:At Z s.pl t) (ht:t.length≤s.sz) :
    (∀ e,tailP s t = .error e→(e.1=4→Z.length=s.pl+t.length)→parseE Z = .error e)∧(∀ s',tailP s t = .ok s' → t.length=4∧s' = s∧fixE Z s.pl magic2=none):=by
  have hz:=sz3 h0
  unfold tailP
  cases hb:begE t magic2 with
  | some i=>
    refine ⟨fun e hx _ => ?_,fun s' hx=>by cases hx⟩
    cases hx
    refine parse_of_tail hm he ?_
    rw [hA.fix_some hb];rfl
  | none=>
    simp only
    by_cases q:t.length < s.sz
    · rw [if_pos q]
      refine ⟨fun e hx h4 => ?_,fun s' hx=>by cases hx⟩
      cases hx
      have hZ:=h4 rfl
      refine parse_of_tail hm he ?_
      rw [hA.fix_short hb (by simp [magic2];omega) hZ,hZ];rfl
    · rw [if_neg q]
      refine ⟨fun e hx=>(by cases hx),fun s' hx => ?_⟩
      cases hx
      exact ⟨by omega,rfl,hA.fix_none hb (by simp [magic2];omega)⟩
theorem Head.facts {s:St} {Z:List UInt8} (hh:Head s Z):1≤s.k∧s.k≤128∧s.k≤s.n∧s.n≤128∧s.i < s.n∧1≤s.c∧s.c≤65536∧4≤s.m∧s.m≤300000∧s.ln≤65536:=by
  have h2:=hh.ok
  unfold headE at h2
  split at h2
  · cases h2
  · have:=headR_none h2
    rw [hh.k,hh.n,hh.i,hh.c,hh.m,hh.ln];omega
theorem read_err {s:St} {Z t:List UInt8} (hG:Good s Z) (h4:s.nx≠4) (hA:At Z s.pl t) (ht:t.length≤s.sz) {e:Nat×Nat} (h:readP s t = .error e) (hs:e.1=4→Z.length=s.pl+t.length):parseE Z = .error e:=by
  unfold readP at h
  cases hG with
  | head h0 h1 h2=>rw [if_pos h0] at h;exact parse_of_head ((head_P h0 h1 h2 hA ht).1 e h hs)
  | man h0 h1 h2 hh=>rw [if_neg (by omega),if_pos h0] at h;exact (man_P h0 h1 hh hA ht).1 e h hs
  | frame h0 hm h1 f hf he=>rw [if_neg (by omega),if_neg (by omega),if_pos h0] at h;exact (frame_P h0 hm h1 hm.head.facts.2.2.2.2.2.1 f hf he hA ht).1 e h hs
  | tail h0 hm h1 he=>rw [if_neg (by omega),if_neg (by omega),if_neg (by omega)] at h;exact (tail_P h0 hm he hA ht).1 e h hs
  | done h0=>exact absurd h0 h4
theorem read_ok {s s':St} {Z t:List UInt8} (hG:Good s Z) (h4:s.nx≠4) (hA:At Z s.pl t) (ht:t.length≤s.sz) (h:readP s t = .ok s'):t.length=s.sz∧Good (moveP s' t) Z∧s'.pl=s.pl∧s'.nx=s.nx:=by
  unfold readP at h
  cases hG with
  | head h0 h1 h2=>
    rw [if_pos h0] at h
    obtain ⟨a1,a2,a3,a4,a5⟩:=(head_P h0 h1 h2 hA ht).2 s' h
    refine ⟨by rw [sz0 h0];omega,?_,by omega,by omega⟩
    refine .man ?_ ?_ a3 ⟨a2.ok,a2.k,a2.n,a2.i,a2.c,a2.m,a2.ln⟩
    · simp only [moveP,nextP];rw [if_pos a4]
    · simp only [moveP];omega
  | man h0 h1 h2 hh=>
    rw [if_neg (by omega),if_pos h0] at h
    obtain ⟨a1,a2,a3,a4,a5,a6⟩:=(man_P h0 h1 hh hA ht).2 s' h
    refine ⟨by rw [sz1 h0];omega,?_,by omega,by omega⟩
    have hM:Man (moveP s' t) Z:=⟨⟨a2.head.ok,a2.head.k,a2.head.n,a2.head.i,a2.head.c,a2.head.m,a2.head.ln⟩,a2.names,a2.long,a2.tt,a2.small⟩
    have hpl:(moveP s' t).pl=32+(moveP s' t).m+8:=by simp only [moveP];omega
    have hcol:(moveP s' t).col=[]:=a3
    have hln:(moveP s' t).ln=s'.ln:=rfl
    by_cases q:0 < s'.ln
    · refine .frame ?_ hM (by rw [hcol,hln];simpa using q) s'.ln (by rw [hln];omega) (by rw [hpl,hcol,hln])
      simp only [moveP,nextP]
      rw [if_neg (by omega),if_neg (by omega),if_pos (by rw [a3];simpa using q)]
    · refine .tail ?_ hM (by rw [hcol,hln];simp;omega) ?_
      · simp only [moveP,nextP]
        rw [if_neg (by omega),if_neg (by omega),if_neg (by rw [a3];simpa using q)]
      · rw [hpl,hcol,hln,show s'.ln=0 by omega]
        unfold frE
        rw [framesE]
  | frame h0 hm h1 f hf he=>
    rw [if_neg (by omega),if_neg (by omega),if_pos h0] at h
    obtain ⟨a1,a2,a3,a4,a5,a6,f',a7,a8⟩:=(frame_P h0 hm h1 hm.head.facts.2.2.2.2.2.1 f hf he hA ht).2 s' h
    refine ⟨a1,?_,a4,by omega⟩
    have hM:Man (moveP s' t) Z:=⟨⟨a2.head.ok,a2.head.k,a2.head.n,a2.head.i,a2.head.c,a2.head.m,a2.head.ln⟩,a2.names,a2.long,a2.tt,a2.small⟩
    have h9:frE (moveP s' t) Z (moveP s' t).ln (32+(moveP s' t).m+8) []=frE (moveP s' t) Z f' (moveP s' t).pl (moveP s' t).col:=by
      have e9:(moveP s' t).pl=s.pl+t.length:=by simp only [moveP];omega
      rw [e9];exact a8
    by_cases q:s'.col.length < s'.ln
    · refine .frame ?_ hM q f' (by show s'.ln≤f' + s'.col.length;omega) h9
      simp only [moveP,nextP]
      rw [if_neg (by omega),if_neg (by omega),if_pos q]
    · refine .tail ?_ hM (by show s'.ln=s'.col.length;omega) ?_
      · simp only [moveP,nextP]
        rw [if_neg (by omega),if_neg (by omega),if_neg q]
      · rw [h9]
        unfold frE
        cases f' with
        | zero=>rw [framesE]
        | succ f'=>rw [framesE,if_pos (by show s'.ln≤s'.col.length;omega)]
  | tail h0 hm h1 he=>
    rw [if_neg (by omega),if_neg (by omega),if_neg (by omega)] at h
    obtain ⟨a1,rfl,a3⟩:=(tail_P h0 hm he hA ht).2 s' h
    refine ⟨by rw [sz3 h0];omega,?_,rfl,rfl⟩
    refine .done ?_ ⟨⟨hm.head.ok,hm.head.k,hm.head.n,hm.head.i,hm.head.c,hm.head.m,hm.head.ln⟩,hm.names,hm.long,hm.tt,hm.small⟩ h1 s'.pl ?_ he a3
    · simp only [moveP,nextP];rw [if_neg (by omega),if_pos h0]
    · simp only [moveP];omega
  | done h0=>exact absurd h0 h4
def St.shd (s:St):Shd:=⟨s.k,s.n,s.i,s.c,s.ns,s.zs,s.col⟩
theorem read_end {s:St} {Z:List UInt8} (hG:Good s Z) (h4:s.nx=4):parseE Z=if Z.length≤s.pl then .ok s.shd else .error (9,s.pl):=by
  cases hG with
  | done h0 hm h1 a ha he hx=>
    by_cases q:Z.length≤s.pl
    · rw [if_pos q,← show parseE Z = .ok s.shd from parse_of_all hm he (by rw [hx];simp only [orE,mustE];rw [if_pos (by simp;omega)])]
    · rw [if_neg q,ha]
      exact parse_of_tail hm he (by rw [hx];simp only [orE,mustE];rw [if_neg (by simp;omega)])
  | head h0=>omega
  | man h0=>omega
  | frame h0=>omega
  | tail h0=>omega
theorem Good.bounds {s:St} {Z:List UInt8} (hG:Good s Z):s.nx≤4∧(s.nx=0∨1≤s.k∧s.k≤128∧s.k≤s.n∧s.n≤128∧s.i < s.n∧1≤s.c∧s.c≤65536∧4≤s.m∧s.m≤300000∧s.ln≤65536)∧(s.nx≤1→s.col=[])∧(s.nx=2→s.col.length < s.ln)∧(2≤s.nx→s.tt≤65536∧s.col.length≤s.ln):=by
  cases hG with
  | head h0 h1 h2=>exact ⟨by omega,.inl h0,fun _=>h2,by omega,by omega⟩
  | man h0 h1 h2 hh=>exact ⟨by omega,.inr hh.facts,fun _=>h2,by omega,by omega⟩
  | frame h0 hm h1 f hf he=>exact ⟨by omega,.inr hm.head.facts,by omega,fun _=>h1,fun _=>⟨by rw [hm.tt];exact hm.small,by omega⟩⟩
  | tail h0 hm h1 he=>exact ⟨by omega,.inr hm.head.facts,by omega,by omega,fun _=>⟨by rw [hm.tt];exact hm.small,by omega⟩⟩
  | done h0 hm h1=>exact ⟨by omega,.inr hm.head.facts,by omega,by omega,fun _=>⟨by rw [hm.tt];exact hm.small,by omega⟩⟩
def runP:St→List (List UInt8)→Option St
  | s,[]=>some s
  | s,t :: ts=>if t.length=s.sz∧s.nx≠4 then match readP s t with
    | .ok s'=>runP (moveP s' t) ts
    | .error _=>none
    else none
theorem begE_pre {t u ws:List UInt8} (h:begE (t++u) ws=none):begE t ws=none:=by
  rw [begE_none_iff] at h ⊢
  intro i hi
  have h1:=h i (by simp;omega)
  rw [← h1]
  simp only [bAt,List.getD_eq_getElem?_getD]
  rw [List.getElem?_append_left (by omega)]
theorem read_cut {s s':St} {t u:List UInt8} (h:readP s (t++u) = .ok s') (hl:t.length < s.sz):readP s t = .error (4,s.pl+t.length):=by
  have hs:sealP s t=some (4,s.pl+t.length):=by unfold sealP;rw [if_pos hl]
  unfold readP at h ⊢
  split
  · rename_i h0
    rw [if_pos h0] at h
    unfold headP at h ⊢
    cases hb:begE (t++u) magic1 with
    | some i=>rw [hb] at h;cases h
    | none=>rw [begE_pre hb,hs]
  · rename_i h0
    rw [if_neg h0] at h
    split
    · unfold manP
      rw [hs]
    · rename_i h1
      rw [if_neg h1] at h
      split
      · unfold frameP
        rw [hs]
      · rename_i h2
        rw [if_neg h2] at h
        unfold tailP at h ⊢
        cases hb:begE (t++u) magic2 with
        | some i=>rw [hb] at h;cases h
        | none=>rw [begE_pre hb];simp only;rw [if_pos hl]
theorem at_split {Z t u:List UInt8} {a:Nat} (h:At Z a (t++u)):At Z a t∧At Z (a+t.length) u:=by
  have h1:=h.1
  rw [List.length_append] at h1
  refine ⟨⟨by omega,fun i hi => ?_⟩,⟨by omega,fun i hi => ?_⟩⟩
  · rw [h.2 i (by simp;omega)]
    simp only [bAt,List.getD_eq_getElem?_getD]
    rw [List.getElem?_append_left hi]
  · rw [Nat.add_assoc,h.2 (t.length+i) (by simp;omega)]
    simp only [bAt,List.getD_eq_getElem?_getD]
    rw [List.getElem?_append_right (by omega),Nat.add_sub_cancel_left]
theorem at_mid (x t y:List UInt8):At (x++t++y) x.length t:=by
  refine ⟨by simp,fun i hi => ?_⟩
  simp only [bAt,List.getD_eq_getElem?_getD]
  rw [List.getElem?_append_left (by simp;omega),List.getElem?_append_right (by omega),Nat.add_sub_cancel_left]
theorem run_good:∀ (ts:List (List UInt8)) (s s':St) (Z:List UInt8),Good s Z→At Z s.pl ts.flatten→runP s ts=some s' → Good s' Z∧s'.pl=s.pl+ts.flatten.length
  | [],s,s',Z,hG,_,h=>by
    cases h
    exact ⟨hG,rfl⟩
  | t :: ts,s,s',Z,hG,hA,h=>by
    unfold runP at h
    split at h
    · rename_i hc
      cases hr:readP s t with
      | error e=>rw [hr] at h;cases h
      | ok s1=>
        rw [hr] at h
        rw [List.flatten_cons] at hA
        obtain ⟨h1,h2⟩:=at_split hA
        obtain ⟨_,g1,g2,_⟩:=read_ok hG hc.2 h1 (by omega) hr
        have hp:(moveP s1 t).pl=s.pl+t.length:=by show s1.pl+t.length=_;rw [g2]
        obtain ⟨g3,g4⟩:=run_good ts _ s' Z g1 (by rw [hp];exact h2) h
        refine ⟨g3,?_⟩
        rw [g4,hp,List.flatten_cons,List.length_append]
        omega
    · cases h
theorem run_cut:∀ (ts:List (List UInt8)) (s s':St) (Z x y:List UInt8),Good s Z→Z.length=s.pl+x.length→At Z s.pl x→ts.flatten=x++y→0 < y.length→runP s ts=some s' → parseE Z = .error (4,Z.length)
  | [],s,s',Z,x,y,_,_,_,e,hy,_=>by
    have:=congrArg List.length e
    simp at this
    omega
  | t :: ts,s,s',Z,x,y,hG,hZ,hA,e,hy,h=>by
    unfold runP at h
    split at h
    · rename_i hc
      cases hr:readP s t with
      | error e=>rw [hr] at h;cases h
      | ok s1=>
        rw [hr] at h
        rw [List.flatten_cons] at e
        rcases Nat.lt_or_ge x.length t.length with hlt | hge
        ·
          obtain ⟨u,rfl⟩:∃ u,t=x++u:=by
            have h1:(t++ts.flatten).take x.length=x:=by rw [e];simp
            rw [List.take_append_of_le_length (by omega)] at h1
            exact ⟨t.drop x.length,(List.take_append_drop x.length t).symm.trans (congrArg (· ++ t.drop x.length) h1)⟩
          have hsz:x.length < s.sz:=by rw [← hc.1];exact hlt
          rw [hZ]
          exact read_err hG hc.2 hA (by omega) (read_cut hr hsz) (fun _=>hZ)
        · obtain ⟨x2,rfl⟩:∃ x2,x=t++x2:=by
            have h1:(x++y).take t.length=t:=by rw [← e];simp
            rw [List.take_append_of_le_length (by omega)] at h1
            exact ⟨x.drop t.length,(List.take_append_drop t.length x).symm.trans (congrArg (· ++ x.drop t.length) h1)⟩
          obtain ⟨h1,h2⟩:=at_split hA
          obtain ⟨_,g1,g2,_⟩:=read_ok hG hc.2 h1 (by omega) hr
          have hp:(moveP s1 t).pl=s.pl+t.length:=by show s1.pl+t.length=_;rw [g2]
          rw [List.append_assoc] at e
          exact run_cut ts _ s' Z x2 y g1 (by rw [hp,hZ,List.length_append];omega) (by rw [hp];exact h2) (List.append_cancel_left e) hy h
    · cases h
def St0:St:=⟨0,0,0,0,[],[],[],0,0,0,0,0⟩
theorem parse_run {ts:List (List UInt8)} {s:St} (h:runP St0 ts=some s) (h4:s.nx=4) (x:List UInt8):parseE (ts.flatten++x)=if x=[] then .ok s.shd else .error (9,ts.flatten.length):=by
  obtain ⟨g1,g2⟩:=run_good ts St0 s (ts.flatten++x) (.head rfl rfl rfl) (at_mid [] ts.flatten x) h
  have g2':s.pl=ts.flatten.length:=by rw [g2];exact Nat.zero_add _
  rw [read_end g1 h4,g2']
  by_cases hx:x=[]
  · rw [if_pos hx,if_pos (by rw [hx];simp)]
  · have:0 < x.length:=List.length_pos_iff.2 hx
    rw [if_neg hx,if_neg (by simp;omega)]
theorem parse_short {ts:List (List UInt8)} {s:St} (h:runP St0 ts=some s) {m:Nat} (hm:m < ts.flatten.length):parseE (ts.flatten.take m) = .error (4,m):=by
  have hl:(ts.flatten.take m).length=m:=by rw [List.length_take];omega
  have:=run_cut ts St0 s (ts.flatten.take m) (ts.flatten.take m) (ts.flatten.drop m) (.head rfl rfl rfl) (Nat.zero_add _).symm (by have:=at_mid [] (ts.flatten.take m) [];rwa [List.append_nil,List.nil_append] at this) (List.take_append_drop m _).symm (by rw [List.length_drop];omega) h
  rw [this,hl]
end Go.Proofs.YtkpcmfgeanlcnabGreatDoor

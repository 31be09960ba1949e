/-
  How the document reads a shard: the frames, one behind the other.
-/
import Derived.Test.YtkpcmfgeanlcnabGreatDoorScanI
import Derived.Deep.RegionHeld
import Derived.Deep.RegionLaw
import Derived.Test.YtkpcmfgeanlcnabGreatDoorWrE
namespace Go.Proofs.YtkpcmfgeanlcnabGreatDoor
open Go.RowKit Go.Deep
def padE (en:Int) (a m:Nat):List UInt8→Option (Nat×Nat)
  | []=>none
  | b :: p=>if (m:Int) < en∨b.toNat=0 then padE en (a+1) (m+1) p else some (8,a)
theorem padE_snoc (en:Int) (b:UInt8):∀ (p:List UInt8) (a m:Nat),padE en a m (p++[b])=orE (padE en a m p) (mustE (decide (((m+p.length:Nat):Int) < en∨b.toNat=0)) 8 (a+p.length))
  | [],a,m=>by
    by_cases h:(m:Int) < en∨b.toNat=0
    · simp [padE,orE,mustE,h]
    · simp [padE,orE,mustE,h]
  | c :: p,a,m=>by
    simp only [List.cons_append,padE,List.length_cons]
    by_cases h:(m:Int) < en∨c.toNat=0
    · rw [if_pos h,if_pos h,padE_snoc en b p (a+1) (m+1)]
      rw [show m+1+p.length=m+(p.length+1) by omega,show a+1+p.length=a+(p.length+1) by omega]
    · rw [if_neg h,if_neg h];rfl
theorem errs_padE (en:Int):∀ (p:List UInt8) (a m:Nat),Errs (padE en a m p)
  | [],_,_=>errs_none
  | b :: p,a,m=>by
    unfold padE
    split
    · exact errs_padE en p _ _
    · exact errs_some (by decide)
def framesE (l:List UInt8) (low:Bool) (ch ln:Nat) (en:Int):Nat→Nat→List UInt8→Except (Nat×Nat) (List UInt8×Nat)
  | 0,a,col=>.ok (col,a)
  | f+1,a,col=>
    if ln≤col.length then .ok (col,a)
    else match sealE l a (min (ln - col.length) ch) with
      | some e=>.error e
      | none=>match (if low then padE en a col.length (part l a (min (ln - col.length) ch)) else none) with
        | some e=>.error e
        | none=>framesE l low ch ln en f (a+min (ln - col.length) ch+8) (col++part l a (min (ln - col.length) ch))
section
variable (sb xb bb bo cap:Nat) (hbs:bb≠sb) (hbx:bb≠xb) (hxs:xb≠sb) (l:List UInt8) (hl:l.length < 2 ^ 60) (hcap:l.length≤cap) (k n i ch at0:Nat) (hk1:1≤k) (hk2:k≤128) (hi:i < 128) (vN vS:Value) (zs:List Nat) (hz:∀ j,zs.getD j 0 < 2 ^ 63) (hzl:zs.length < 2 ^ 60)
    (ln:Nat) (hln:ln≤65537) (w:World) (hx:ShX w xb k n i ch vN vS (.slice none 0 0)) (hS:Hold w vS (natV zs)) (hb:Byt w bb bo l) (hbb:bb < w.heap.size)
theorem owns_slice {w:World} {base e n:Nat} {v:Value} {xs:List Value} (h:w.ownsRow base e 1 v n xs):∃ ba cap,v = .slice ba n cap:=by
  rcases h.2 with ⟨h1,h0⟩ | ⟨g,c,_,h1,_⟩
  · exact ⟨none,0,by rw [h1,h0]⟩
  · exact ⟨_,c,h1⟩
end
def magic2:List UInt8:=[68,79,78,69]
structure Shd where
  k:Nat
  n:Nat
  i:Nat
  c:Nat
  names:List (List UInt8)
  sizes:List Nat
  col:List UInt8
def headE (l:List UInt8):Option (Nat×Nat):=
  match orE (fixE l 0 magic1) (sealE l 0 24) with
  | some x=>some x
  | none=>headR none (le l 6 1) (le l 7 1) (le l 8 1) (le l 9 1) (le l 10 4) (le l 14 4) (le l 18 4) (le l 22 2)
def parseE (l:List UInt8):Except (Nat×Nat) Shd:=
  match headE l with
  | some e=>.error e
  | none=>
    match namesE l (le l 14 4) with
    | .error e=>.error e
    | .ok (ns,zs)=>
      if le l 18 4=lengthS (le l 6 1) zs then
        match framesE l (decide (le l 8 1 < le l 6 1)) (le l 10 4) (le l 18 4) ((totalS zs:Int) - ((le l 8 1*lengthS (le l 6 1) zs:Nat):Int)) (le l 18 4) (32+le l 14 4+8) [] with
        | .error e=>.error e
        | .ok (col,a)=>
          match orE (fixE l a magic2) (mustE (decide (l.length≤a+4)) 9 (a+4)) with
          | some e=>.error e
          | none=>.ok ⟨le l 6 1,le l 7 1,le l 8 1,le l 10 4,ns,zs,col⟩
      else .error (7,18)
theorem headR_none {k n i z c m ln zz:Nat} (h:headR none k n i z c m ln zz=none):1≤k∧k≤128∧k≤n∧n≤128∧i < n∧z=0∧1≤c∧c≤65536∧4≤m∧m≤300000∧ln≤65536∧zz=0:=by
  have key:∀ {r:Option (Nat×Nat)} {ok:Bool} {x y:Nat},orE r (mustE ok x y)=none→r=none∧ok=true:=by
    intro r ok x y h
    cases r with
    | some _=>cases h
    | none=>cases ok with
      | true=>exact ⟨rfl,rfl⟩
      | false=>cases h
  unfold headR at h
  obtain ⟨h,h8⟩:=key h
  obtain ⟨h,h7⟩:=key h
  obtain ⟨h,h6⟩:=key h
  obtain ⟨h,h5⟩:=key h
  obtain ⟨h,h4⟩:=key h
  obtain ⟨h,h3⟩:=key h
  obtain ⟨h,h2⟩:=key h
  obtain ⟨_,h1⟩:=key h
  simp only [decide_eq_true_eq] at *
  omega
def zeroShard:Value:=.agg (shardL 0 0 0 0 (.slice none 0 0) (.slice none 0 0) (.slice none 0 0)).toArray
def ParsePost (l:List UInt8) (w:World) (q:Ending) (w':World):Prop:=
  Below w.heap.size w w' ∧
  match parseE l with
  | .error e=>q = .returned (.tuple #[zeroShard,.int .i64 (e.1:Int),.int .i64 (e.2:Int)])
  | .ok s=>∃ vN vS vC,q = .returned (.tuple #[.agg (shardL s.k s.n s.i s.c vN vS vC).toArray,.int .i64 0,.int .i64 0]) ∧
      w'.ownsRow w.heap.size 9 1 vN s.names.length (strsV s.names)∧w'.ownsRow w.heap.size 3 1 vS s.sizes.length (natV s.sizes)∧w'.ownsRow w.heap.size 5 1 vC s.col.length (u8V s.col)
theorem results_cell_2 {P:Program} {fn:Func} {p u t:Tmp} {ty:TypeId} (h:fn.results = #[.cell p ty,.tmp u,.tmp t]) (tmps:Array Value) (w:World) (g:Nat) (et:TypeId) (cs:Array Value) (fr:Nat×Nat) (d:TypeDesc)
    (hp:tmps.getD p undef = .pointer (some ⟨g,0,none⟩)) (hg:w.heap[g]? = some (.cells cs et fr))
    (hu:P.underlying ty=some d) (hd:(match d with | .struct _ | .array _ _=>true | _=>false)=true) (hi:(P.info? ty).map (·.size)=some cs.size) :
    (results fn tmps).run P w = .ok (.tuple #[.agg cs,tmps.getD u undef,tmps.getD t undef]) w:=by
  have hp':tmps[p]?.getD undef = .pointer (some ⟨g,0,none⟩):=by simpa using hp
  simp [results,h,hp',asAddr,run_loadVar_row w g et ty cs fr d hg hu hd hi]
end Go.Proofs.YtkpcmfgeanlcnabGreatDoor
namespace Go.Proofs.YtkpcmfgeanlcnabGreatDoor
def At (Z:List UInt8) (a:Nat) (t:List UInt8):Prop:=a+t.length≤Z.length∧∀ i,i < t.length→bAt Z (a+i)=bAt t i
theorem At.more {Z t:List UInt8} {a:Nat} (h:At Z a t) (x:List UInt8):At (Z++x) a t:=by
  refine ⟨by simp;have:=h.1;omega,fun i hi => ?_⟩
  rw [← h.2 i hi]
  have:=h.1
  simp only [bAt,List.getD_eq_getElem?_getD]
  rw [List.getElem?_append_left (by omega)]
theorem ext_bAt {p q:List UInt8} (hl:p.length=q.length) (h:∀ i,i < p.length→bAt p i=bAt q i):p=q:=by
  apply List.ext_getElem hl
  intro i h1 h2
  have:=h i h1
  simp only [bAt,List.getD_eq_getElem?_getD,List.getElem?_eq_getElem h1,List.getElem?_eq_getElem h2,Option.getD_some] at this
  exact UInt8.toNat_inj.1 this
theorem At.num {Z t:List UInt8} {a:Nat} (h:At Z a t):∀ n j,j+n≤t.length→le Z (a+j) n=le t j n
  | 0,_,_=>rfl
  | n+1,j,hj=>by
    show bAt Z (a+j)+256*le Z (a+j+1) n=bAt t j+256*le t (j+1) n
    rw [h.2 j (by omega),Nat.add_assoc,At.num h n (j+1) (by omega)]
theorem At.cut {Z t:List UInt8} {a:Nat} (h:At Z a t) {j n:Nat} (hn:j+n≤t.length):part Z (a+j) n=part t j n:=by
  have:=h.1
  apply ext_bAt
  · rw [part_length (by omega),part_length hn]
  · intro i hi
    rw [part_length (by omega)] at hi
    rw [part_at hi,part_at hi,Nat.add_assoc,h.2 (j+i) (by omega)]
theorem At.of_part (t:List UInt8) {j n:Nat} (hn:j+n≤t.length):At t j (part t j n):=by
  refine ⟨by rw [part_length hn];exact hn,fun i hi => ?_⟩
  rw [part_length hn] at hi
  rw [part_at hi]
theorem At.trans {Z t u:List UInt8} {a b:Nat} (h:At Z a t) (k:At t b u):At Z (a+b) u:=by
  have h1:=h.1
  have h2:=k.1
  refine ⟨by omega,fun i hi => ?_⟩
  rw [Nat.add_assoc,h.2 (b+i) (by omega),k.2 i hi]
theorem le_part {t:List UInt8} {j n:Nat} (hn:j+n≤t.length):le (part t j n) 0 n=le t j n:=by
  have h:=(At.of_part t hn).num n 0 (by rw [part_length hn];omega)
  rw [← h];rfl
theorem bAt_cons (c:UInt8) (l:List UInt8) (i:Nat):bAt (c :: l) (i+1)=bAt l i:=by simp [bAt]
theorem le_cons (c:UInt8) (l:List UInt8):∀ n a,le (c :: l) (a+1) n=le l a n
  | 0,_=>rfl
  | n+1,a=>by
    show bAt (c :: l) (a+1)+256*le (c :: l) (a+1+1) n=bAt l a+256*le l (a+1) n
    rw [bAt_cons,le_cons c l n (a+1)]
theorem le_leB:∀ n v,le (leB n v) 0 n=v % 256 ^ n
  | 0,v=>by simp [le,Nat.mod_one]
  | n+1,v=>by
    show bAt (UInt8.ofNat (v % 256) :: leB n (v / 256)) 0+256*le (UInt8.ofNat (v % 256) :: leB n (v / 256)) (0+1) n=_
    rw [le_cons,le_leB n (v / 256)]
    have:bAt (UInt8.ofNat (v % 256) :: leB n (v / 256)) 0=v % 256:=by
      simp [bAt]
    rw [this,Nat.pow_succ,Nat.mul_comm (256 ^ n),Nat.mod_mul]
theorem leB_le:∀ (p:List UInt8),leB p.length (le p 0 p.length)=p
  | []=>rfl
  | c :: p=>by
    have h:le (c :: p) 0 (p.length+1)=c.toNat+256*le p 0 p.length:=by
      show bAt (c :: p) 0+256*le (c :: p) (0+1) p.length=_
      rw [le_cons];rfl
    have hc:=UInt8.toNat_lt c
    show UInt8.ofNat (le (c :: p) 0 (p.length+1) % 256) :: leB p.length (le (c :: p) 0 (p.length+1) / 256)=_
    rw [h,show (c.toNat+256*le p 0 p.length) % 256=c.toNat by omega,show (c.toNat+256*le p 0 p.length) / 256=le p 0 p.length by omega,leB_le p]
    simp
theorem sum_eq {p:List UInt8} {s:Nat} (hp:p.length=8) (hs:s < 2 ^ 64):p=leB 8 s↔s=le p 0 8:=by
  constructor
  · intro h
    rw [h,le_leB,Nat.mod_eq_of_lt (by simpa using hs)]
  · intro h
    have:=leB_le p
    rw [hp] at this
    rw [h,this]
theorem At.seal {Z t:List UInt8} {a n:Nat} (h:At Z a t) (ht:t.length=n+8):sealE Z a n=if sumOf (part t 0 n)=le (part t n 8) 0 8 then none else some (6,a+n):=by
  have h1:=h.1
  unfold sealE
  rw [if_neg (by omega),h.cut (j:=n) (n:=8) (by omega)]
  have h2:=h.cut (j:=0) (n:=n) (by omega)
  rw [Nat.add_zero] at h2
  rw [h2]
  have:=sum_eq (p:=part t n 8) (s:=sumOf (part t 0 n)) (part_length (by omega)) (sumOf_lt _)
  by_cases q:part t n 8=leB 8 (sumOf (part t 0 n))
  · rw [if_pos q,if_pos (this.1 q)]
  · rw [if_neg q,if_neg (fun x=>q (this.2 x))]
theorem seal_short {Z:List UInt8} {a n:Nat} (h:Z.length < a+n+8):sealE Z a n=some (4,Z.length):=by
  unfold sealE
  rw [if_pos h]
theorem fixE_some (Z:List UInt8):∀ (ws:List UInt8) (a i:Nat),i < ws.length→a+i < Z.length→(∀ j,j < i→bAt Z (a+j)=(ws.getD j 0).toNat)→bAt Z (a+i)≠(ws.getD i 0).toNat→fixE Z a ws=some (5,a+i)
  | [],_,_,h,_,_,_=>by simp at h
  | c :: ws,a,0,_,h2,_,h4=>by
    unfold fixE
    rw [if_neg (by omega),if_neg (by simpa using h4)];rfl
  | c :: ws,a,i+1,h1,h2,h3,h4=>by
    have h0:=h3 0 (by omega)
    unfold fixE
    rw [if_neg (by omega),if_pos (by simpa using h0)]
    rw [fixE_some Z ws (a+1) i (by simpa using h1) (by omega) (fun j hj => ?_) ?_,show a+1+i=a+(i+1) by omega]
    · rw [show a+1+i=a+(i+1) by omega];simpa using h4
    · have:=h3 (j+1) (by omega)
      rw [show a+1+j=a+(j+1) by omega,this];simp
theorem fixE_none (Z:List UInt8):∀ (ws:List UInt8) (a:Nat),(∀ j,j < ws.length→a+j < Z.length∧bAt Z (a+j)=(ws.getD j 0).toNat)→fixE Z a ws=none
  | [],_,_=>rfl
  | c :: ws,a,h=>by
    have h0:=h 0 (by simp)
    unfold fixE
    rw [if_neg (by omega),if_pos (by simpa using h0.2)]
    refine fixE_none Z ws (a+1) (fun j hj => ?_)
    have:=h (j+1) (by simpa using hj)
    rw [show a+1+j=a+(j+1) by omega]
    exact ⟨this.1,by rw [this.2];simp⟩
theorem fixE_short (Z:List UInt8):∀ (ws:List UInt8) (a d:Nat),d < ws.length→Z.length=a+d→(∀ j,j < d→bAt Z (a+j)=(ws.getD j 0).toNat)→fixE Z a ws=some (4,Z.length)
  | [],_,_,h,_,_=>by simp at h
  | c :: ws,a,0,_,h2,_=>by
    unfold fixE
    rw [if_pos (by omega)]
  | c :: ws,a,d+1,h1,h2,h3=>by
    have h0:=h3 0 (by omega)
    unfold fixE
    rw [if_neg (by omega),if_pos (by simpa using h0)]
    refine fixE_short Z ws (a+1) d (by simpa using h1) (by omega) (fun j hj => ?_)
    have:=h3 (j+1) (by omega)
    rw [show a+1+j=a+(j+1) by omega,this];simp
theorem begE_some_iff {l ws:List UInt8} {c:Nat}:begE l ws=some c↔c < min ws.length l.length∧(∀ i,i < c→bAt l i=(ws.getD i 0).toNat)∧bAt l c≠(ws.getD c 0).toNat:=by
  unfold begE
  rw [List.find?_range_eq_some]
  constructor
  · rintro ⟨h1,h2,h3⟩
    exact ⟨by simpa using h2,fun i hi=>by simpa using h3 i hi,by simpa using h1⟩
  · rintro ⟨h1,h2,h3⟩
    exact ⟨by simpa using h3,by simpa using h1,fun i hi=>by simpa using h2 i hi⟩
theorem begE_none_iff {l ws:List UInt8}:begE l ws=none↔∀ i,i < min ws.length l.length→bAt l i=(ws.getD i 0).toNat:=by
  unfold begE
  rw [List.find?_eq_none]
  constructor
  · intro h i hi
    have:=h i (by simpa using hi)
    simpa using this
  · intro h i hi
    have:=h i (by simpa using hi)
    simpa using this
theorem At.fix_some {Z t ws:List UInt8} {a i:Nat} (h:At Z a t) (hb:begE t ws=some i):fixE Z a ws=some (5,a+i):=by
  obtain ⟨h1,h2,h3⟩:=begE_some_iff.1 hb
  have h4:=h.1
  refine fixE_some Z ws a i (by omega) (by omega) (fun j hj => ?_) ?_
  · rw [h.2 j (by omega)];exact h2 j hj
  · rw [h.2 i (by omega)];exact h3
theorem At.fix_none {Z t ws:List UInt8} {a:Nat} (h:At Z a t) (hb:begE t ws=none) (hl:ws.length≤t.length):fixE Z a ws=none:=by
  have h1:=begE_none_iff.1 hb
  have h4:=h.1
  refine fixE_none Z ws a (fun j hj=>⟨by omega,?_⟩)
  rw [h.2 j (by omega)];exact h1 j (by omega)
theorem At.fix_short {Z t ws:List UInt8} {a:Nat} (h:At Z a t) (hb:begE t ws=none) (hl:t.length < ws.length) (hz:Z.length=a+t.length):fixE Z a ws=some (4,Z.length):=by
  have h1:=begE_none_iff.1 hb
  refine fixE_short Z ws a t.length hl hz (fun j hj => ?_)
  rw [h.2 j hj];exact h1 j (by omega)
def numsE:List (Nat×Nat×Int×Int)→Option Nat
  | []=>none
  | (p,v,lo,hi) :: r=>if (v:Int) < lo∨hi < (v:Int) then some p else numsE r
theorem orE_assoc (a b c:Option (Nat×Nat)):orE (orE a b) c=orE a (orE b c):=by cases a <;> rfl
theorem numsE_cons (p v:Nat) (lo hi:Int) (r:List (Nat×Nat×Int×Int)) (ok:Bool) (h:ok=true↔lo≤(v:Int)∧(v:Int)≤hi):(numsE ((p,v,lo,hi) :: r)).map (fun x=>(1,x))=orE (mustE ok 1 p) ((numsE r).map (fun x=>(1,x))):=by
  cases ok with
  | true=>
    have:=h.1 rfl
    show (if (v:Int) < lo∨hi < (v:Int) then some p else numsE r).map (fun x=>(1,x))=_
    rw [if_neg (by omega)];rfl
  | false=>
    have:¬ (lo≤(v:Int)∧(v:Int)≤hi):=fun x=>by have:=h.2 x;cases this
    show (if (v:Int) < lo∨hi < (v:Int) then some p else numsE r).map (fun x=>(1,x))=_
    rw [if_pos (by omega)];rfl
theorem headR_nums (k n i z c m ln zz:Nat):headR none k n i z c m ln zz=(numsE [(6,k,1,128),(7,n,(k:Int),128),(8,i,0,(n:Int) - 1),(9,z,0,0),(10,c,1,65536),(14,m,4,300000),(18,ln,0,65536),(22,zz,0,0)]).map (fun x=>(1,x)):=by
  rw [numsE_cons _ _ _ _ _ (decide (1≤k∧k≤128)) (by simp;omega),numsE_cons _ _ _ _ _ (decide (k≤n∧n≤128)) (by simp;omega),numsE_cons _ _ _ _ _ (decide (i < n)) (by simp;omega),numsE_cons _ _ _ _ _ (decide (z=0)) (by simp),numsE_cons _ _ _ _ _ (decide (1≤c∧c≤65536)) (by simp;omega),numsE_cons _ _ _ _ _ (decide (4≤m∧m≤300000)) (by simp;omega),numsE_cons _ _ _ _ _ (decide (ln≤65536)) (by simp;omega),numsE_cons _ _ _ _ _ (decide (zz=0)) (by simp)]
  unfold headR
  simp only [orE_assoc]
  have:(Option.map (fun x=>(1,x)) (numsE []))=(none:Option (Nat×Nat)):=rfl
  rw [this]
  have o:∀ r:Option (Nat×Nat),orE r none=r:=fun r=>by cases r <;> rfl
  rw [o]
  rfl
def blob1 (u:List UInt8) (a:Nat) (ns:List (List UInt8)) (zs:List Nat):Except Nat (List UInt8×Nat):=
  if u.length < a+6∨le u a 2 < 1∨255 < le u a 2∨u.length < a+6+le u a 2 then .error a
  else if 0 < ns.length∧notBehind (part u (a+2) (le u a 2)) (ns.getD (ns.length - 1) [])=true then .error (a+2)
  else if 65536 < zs.sum+le u (a+2+le u a 2) 4 then .error (a+2+le u a 2)
  else .ok (part u (a+2) (le u a 2),le u (a+2+le u a 2) 4)
def loopP (u:List UInt8):Nat→Nat→List (List UInt8)→List Nat→Except Nat (List (List UInt8)×List Nat)
  | 0,a,ns,zs=>if a < u.length then .error a else .ok (ns,zs)
  | c+1,a,ns,zs=>match blob1 u a ns zs with
    | .error p=>.error p
    | .ok (nm,z)=>loopP u c (a+(6+nm.length)) (ns++[nm]) (zs++[z])
def listP (u:List UInt8):Except Nat (List (List UInt8)×List Nat):=if 1000 < le u 0 4 then .error 0 else loopP u (le u 0 4) 4 [] []
def upE (b:Nat) (r:Except Nat (List (List UInt8)×List Nat)):Except (Nat×Nat) (List (List UInt8)×List Nat):=
  match r with
  | .error p=>.error (7,b+p)
  | .ok x=>.ok x
theorem loop_blobs {Z u:List UInt8} {m:Nat} (h:At Z 32 u) (hu:u.length=m):∀ (c a:Nat) (ns:List (List UInt8)) (zs:List Nat),a≤m→zs.sum≤65536→endE (32+m) (blobsE Z (32+m) c (32+a) ns zs)=upE 32 (loopP u c a ns zs)
  | 0,a,ns,zs,ha,_=>by
    unfold blobsE loopP
    simp only [endE]
    by_cases q:a < u.length
    · rw [if_pos q,if_neg (by omega)];rfl
    · rw [if_neg q,if_pos (by omega)];rfl
  | c+1,a,ns,zs,ha,hz=>by
    unfold blobsE loopP
    by_cases q0:u.length < a+6
    · have hb:blob1 u a ns zs = .error a:=by unfold blob1;rw [if_pos (.inl q0)]
      rw [hb]
      by_cases q1:32+m < 32+a+2
      · rw [if_pos q1];rfl
      · rw [if_neg q1,if_pos (by right;right;omega)];rfl
    · have e2:le Z (32+a) 2=le u a 2:=h.num 2 a (by omega)
      rw [if_neg (by omega),e2]
      by_cases q1:le u a 2 < 1∨255 < le u a 2∨u.length < a+6+le u a 2
      · have hb:blob1 u a ns zs = .error a:=by unfold blob1;rw [if_pos (.inr q1)]
        rw [hb,if_pos (by omega)];rfl
      · have e3:part Z (32+a+2) (le u a 2)=part u (a+2) (le u a 2):=by rw [Nat.add_assoc];exact h.cut (by omega)
        have e4:le Z (32+a+2+le u a 2) 4=le u (a+2+le u a 2) 4:=by
          rw [show 32+a+2+le u a 2=32+(a+2+le u a 2) by omega];exact h.num 4 _ (by omega)
        rw [if_neg (by omega),e3,e4]
        by_cases q2:0 < ns.length∧notBehind (part u (a+2) (le u a 2)) (ns.getD (ns.length - 1) [])=true
        · have hb:blob1 u a ns zs = .error (a+2):=by unfold blob1;rw [if_neg (by omega),if_pos q2]
          rw [hb,if_pos q2];simp only [endE,upE];rw [Nat.add_assoc]
        · rw [if_neg q2]
          have hs:65536 < totalS (zs++[le u (a+2+le u a 2) 4])↔65536 < zs.sum+le u (a+2+le u a 2) 4:=by
            unfold totalS
            simp only [List.sum_append,List.sum_cons,List.sum_nil,Nat.add_zero]
            split <;> omega
          by_cases q3:65536 < zs.sum+le u (a+2+le u a 2) 4
          · have hb:blob1 u a ns zs = .error (a+2+le u a 2):=by unfold blob1;rw [if_neg (by omega),if_neg q2,if_pos q3]
            rw [hb,if_pos (hs.2 q3)];simp only [endE,upE];rw [show 32+a+2+le u a 2=32+(a+2+le u a 2) by omega]
          · have hb:blob1 u a ns zs = .ok (part u (a+2) (le u a 2),le u (a+2+le u a 2) 4):=by unfold blob1;rw [if_neg (by omega),if_neg q2,if_neg q3]
            rw [hb,if_neg (fun x=>q3 (hs.1 x))]
            simp only
            have hl:(part u (a+2) (le u a 2)).length=le u a 2:=part_length (by omega)
            rw [show 32+a+6+le u a 2=32+(a+(6+(part u (a+2) (le u a 2)).length)) by rw [hl];omega]
            exact loop_blobs h hu c _ _ _ (by rw [hl];omega) (by simp;omega)
structure St where
  k:Nat
  n:Nat
  i:Nat
  c:Nat
  ns:List (List UInt8)
  zs:List Nat
  col:List UInt8
  m:Nat
  ln:Nat
  tt:Nat
  nx:Nat
  pl:Nat
def St.sz (s:St):Nat:=sizeR s.nx s.c s.m s.ln s.col.length
def sealP (s:St) (t:List UInt8):Option (Nat×Nat):=
  if t.length < s.sz then some (4,s.pl+t.length)
  else if sumOf (part t 0 (t.length - 8))=le (part t (t.length - 8) 8) 0 8 then none else some (6,s.pl+(t.length - 8))
def numsP (t:List UInt8):List (Nat×Nat×Int×Int):=[(6,le t 6 1,1,128),(7,le t 7 1,(le t 6 1:Int),128),(8,le t 8 1,0,(le t 7 1:Int) - 1),(9,le t 9 1,0,0),(10,le t 10 4,1,65536),(14,le t 14 4,4,300000),(18,le t 18 4,0,65536),(22,le t 22 2,0,0)]
def headP (s:St) (t:List UInt8):Except (Nat×Nat) St:=
  match begE t magic1 with
  | some i=>.error (5,s.pl+i)
  | none=>match sealP s t with
    | some e=>.error e
    | none=>match numsE (numsP t) with
      | some p=>.error (1,p)
      | none=>.ok { s with k:=le t 6 1,n:=le t 7 1,i:=le t 8 1,c:=le t 10 4,m:=le t 14 4,ln:=le t 18 4 }
def manP (s:St) (t:List UInt8):Except (Nat×Nat) St:=
  match sealP s t with
  | some e=>.error e
  | none=>match listP (part t 0 (t.length - 8)) with
    | .error p=>.error (7,s.pl+p)
    | .ok (ns,zs)=>if s.ln=lenC s.k zs.sum then .ok { s with ns:=ns,zs:=zs,tt:=zs.sum,col:=[] } else .error (7,18)
def padP (u:List UInt8) (F:Int):Option Nat:=(List.range u.length).find? fun m=>decide (F≤(m:Int)∧bAt u m≠0)
def frameP (s:St) (t:List UInt8):Except (Nat×Nat) St:=
  match sealP s t with
  | some e=>.error e
  | none=>match padP (part t 0 (t.length - 8)) (usedI s.k s.i s.tt - (s.col.length:Int)) with
    | some m=>.error (8,s.pl+m)
    | none=>.ok { s with col:=s.col++part t 0 (t.length - 8) }
def tailP (s:St) (t:List UInt8):Except (Nat×Nat) St:=
  match begE t magic2 with
  | some i=>.error (5,s.pl+i)
  | none=>if t.length < s.sz then .error (4,s.pl+t.length) else .ok s
def readP (s:St) (t:List UInt8):Except (Nat×Nat) St:=
  if s.nx=0 then headP s t else if s.nx=1 then manP s t else if s.nx=2 then frameP s t else tailP s t
def nextP (s:St):Nat:=if s.nx=0 then 1 else if s.nx=3 then 4 else if s.col.length < s.ln then 2 else 3
def moveP (s:St) (t:List UInt8):St:={ s with pl:=s.pl+t.length,nx:=nextP s }
structure Head (s:St) (Z:List UInt8):Prop where
  ok:headE Z=none
  k:s.k=le Z 6 1
  n:s.n=le Z 7 1
  i:s.i=le Z 8 1
  c:s.c=le Z 10 4
  m:s.m=le Z 14 4
  ln:s.ln=le Z 18 4
structure Man (s:St) (Z:List UInt8):Prop where
  head:Head s Z
  names:namesE Z s.m = .ok (s.ns,s.zs)
  long:s.ln=lengthS s.k s.zs
  tt:s.tt=s.zs.sum
  small:s.zs.sum≤65536
def frE (s:St) (Z:List UInt8) (f a:Nat) (col:List UInt8):Except (Nat×Nat) (List UInt8×Nat):=
  framesE Z (decide (s.i < s.k)) s.c s.ln ((totalS s.zs:Int) - ((s.i*lengthS s.k s.zs:Nat):Int)) f a col
inductive Good (s:St) (Z:List UInt8):Prop
  | head (h0:s.nx=0) (h1:s.pl=0) (h2:s.col=[])
  | man (h0:s.nx=1) (h1:s.pl=32) (h2:s.col=[]) (hh:Head s Z)
  | frame (h0:s.nx=2) (hm:Man s Z) (h1:s.col.length < s.ln) (f:Nat) (hf:s.ln≤f+s.col.length) (he:frE s Z s.ln (32+s.m+8) []=frE s Z f s.pl s.col)
  | tail (h0:s.nx=3) (hm:Man s Z) (h1:s.ln=s.col.length) (he:frE s Z s.ln (32+s.m+8) [] = .ok (s.col,s.pl))
  | done (h0:s.nx=4) (hm:Man s Z) (h1:s.ln=s.col.length) (a:Nat) (ha:s.pl=a+4) (he:frE s Z s.ln (32+s.m+8) [] = .ok (s.col,a)) (hx:fixE Z a magic2=none)
theorem parse_of_head {Z:List UInt8} {e:Nat×Nat} (h:headE Z=some e):parseE Z = .error e:=by
  unfold parseE;rw [h]
theorem parse_of_names {s:St} {Z:List UInt8} {e:Nat×Nat} (h:Head s Z) (hn:namesE Z s.m = .error e):parseE Z = .error e:=by
  unfold parseE;rw [h.ok];simp only;rw [← h.m,hn]
theorem parse_of_long {s:St} {Z:List UInt8} {ns:List (List UInt8)} {zs:List Nat} (h:Head s Z) (hn:namesE Z s.m = .ok (ns,zs)) (hl:¬ s.ln=lengthS s.k zs):parseE Z = .error (7,18):=by
  unfold parseE;rw [h.ok];simp only;rw [← h.m,hn];simp only;rw [← h.ln,← h.k,if_neg hl]
theorem parse_of_frames {s:St} {Z:List UInt8} {e:Nat×Nat} (h:Man s Z) (hf:frE s Z s.ln (32+s.m+8) [] = .error e):parseE Z = .error e:=by
  have hh:=h.head
  unfold parseE;rw [hh.ok];simp only;rw [← hh.m,h.names];simp only;rw [← hh.ln,← hh.k,if_pos h.long]
  unfold frE at hf
  rw [← hh.i,← hh.c,hf]
theorem parse_of_tail {s:St} {Z:List UInt8} {e:Nat×Nat} {col:List UInt8} {a:Nat} (h:Man s Z) (hf:frE s Z s.ln (32+s.m+8) [] = .ok (col,a)) (ht:orE (fixE Z a magic2) (mustE (decide (Z.length≤a+4)) 9 (a+4))=some e):parseE Z = .error e:=by
  have hh:=h.head
  unfold parseE;rw [hh.ok];simp only;rw [← hh.m,h.names];simp only;rw [← hh.ln,← hh.k,if_pos h.long]
  unfold frE at hf
  rw [← hh.i,← hh.c,hf]
  simp only
  rw [ht]
theorem parse_of_all {s:St} {Z:List UInt8} {col:List UInt8} {a:Nat} (h:Man s Z) (hf:frE s Z s.ln (32+s.m+8) [] = .ok (col,a)) (ht:orE (fixE Z a magic2) (mustE (decide (Z.length≤a+4)) 9 (a+4))=none):parseE Z = .ok ⟨s.k,s.n,s.i,s.c,s.ns,s.zs,col⟩:=by
  have hh:=h.head
  unfold parseE;rw [hh.ok];simp only;rw [← hh.m,h.names];simp only;rw [← hh.ln,← hh.k,if_pos h.long]
  unfold frE at hf
  rw [← hh.i,← hh.c,hf]
  simp only
  rw [ht,← hh.n]
theorem seal_P {s:St} {Z t:List UInt8} {q:Nat} (hA:At Z s.pl t) (hz:s.sz=q+8) (ht:t.length≤s.sz) {r:Option (Nat×Nat)} (h:sealP s t=r) (h4:∀ p,r=some (4,p)→Z.length=s.pl+t.length):sealE Z s.pl q=r∧(r=none→t.length=q+8):=by
  unfold sealP at h
  by_cases q0:t.length < s.sz
  · rw [if_pos q0] at h
    have:=h4 _ h.symm
    refine ⟨?_,fun e=>by rw [e] at h;cases h⟩
    rw [seal_short (by omega),← h,this]
  · rw [if_neg q0] at h
    have hl:t.length=q+8:=by omega
    refine ⟨?_,fun _=>hl⟩
    rw [hA.seal hl,← h,hl,Nat.add_sub_cancel]
theorem sz0 {s:St} (h:s.nx=0):s.sz=24+8:=by unfold St.sz sizeR;rw [if_pos h]
theorem sz1 {s:St} (h:s.nx=1):s.sz=s.m+8:=by unfold St.sz sizeR;rw [if_neg (by omega),if_pos h]
theorem sz2 {s:St} (h:s.nx=2):s.sz=min s.c (s.ln - s.col.length)+8:=by unfold St.sz sizeR;rw [if_neg (by omega),if_neg (by omega),if_pos h]
theorem sz3 {s:St} (h:s.nx=3):s.sz=4:=by unfold St.sz sizeR;rw [if_neg (by omega),if_neg (by omega),if_neg (by omega)]
theorem beg_short {t:List UInt8} {Z:List UInt8} {a n:Nat} {ws:List UInt8} (hA:At Z a t) (hb:begE t ws=none) (hs:sealE Z a n=some (4,Z.length)) (hz:Z.length=a+t.length):orE (fixE Z a ws) (sealE Z a n)=some (4,Z.length):=by
  by_cases q:t.length < ws.length
  · rw [hA.fix_short hb q hz];rfl
  · rw [hA.fix_none hb (by omega)];exact hs
theorem head_P {s:St} {Z t:List UInt8} (h0:s.nx=0) (h1:s.pl=0) (h2:s.col=[]) (hA:At Z s.pl t) (ht:t.length≤s.sz) :
    (∀ e,headP s t = .error e→(e.1=4→Z.length=s.pl+t.length)→headE Z=some e)∧(∀ s',headP s t = .ok s' → t.length=32∧Head s' Z∧s'.col=[]∧s'.nx=0∧s'.pl=0):=by
  have hz:=sz0 h0
  unfold headP
  cases hb:begE t magic1 with
  | some i=>
    refine ⟨fun e he _ => ?_,fun s' he=>by cases he⟩
    cases he
    unfold headE
    rw [h1] at hA
    rw [hA.fix_some hb,h1];rfl
  | none=>
    simp only
    cases hs:sealP s t with
    | some x=>
      refine ⟨fun e he h4 => ?_,fun s' he=>by cases he⟩
      cases he
      obtain ⟨h5,_⟩:=seal_P hA hz ht hs (fun p hp=>by cases hp;exact h4 rfl)
      rw [h1] at hA h5
      unfold headE
      by_cases q:t.length < 32
      · have hx:x=(4,s.pl+t.length):=by unfold sealP at hs;rw [if_pos (by omega)] at hs;cases hs;rfl
        have hZ:=h4 (by rw [hx])
        rw [h1,Nat.zero_add] at hZ
        rw [beg_short hA hb (by rw [h5,hx,hZ,h1,Nat.zero_add]) (by omega)]
        rw [hx,hZ,h1,Nat.zero_add]
      · rw [hA.fix_none hb (by simp [magic1];omega)]
        simp only [orE]
        rw [h5]
    | none=>
      obtain ⟨h5,h6⟩:=seal_P hA hz ht hs (fun p hp=>by cases hp)
      have hl:=h6 rfl
      rw [h1] at hA h5
      have hN:∀ j n,j+n≤32→le Z j n=le t j n:=fun j n hj=>by have:=hA.num n j (by omega);rw [Nat.zero_add] at this;exact this
      have hH:headE Z=(numsE (numsP t)).map (fun x=>(1,x)):=by
        unfold headE
        rw [hA.fix_none hb (by simp [magic1];omega)]
        simp only [orE]
        rw [h5]
        simp only
        rw [headR_nums,hN 6 1 (by omega),hN 7 1 (by omega),hN 8 1 (by omega),hN 9 1 (by omega),hN 10 4 (by omega),hN 14 4 (by omega),hN 18 4 (by omega),hN 22 2 (by omega)]
        rfl
      simp only
      cases hn:numsE (numsP t) with
      | some p=>
        refine ⟨fun e he _ => ?_,fun s' he=>by cases he⟩
        cases he
        rw [hH,hn];rfl
      | none=>
        refine ⟨fun e he=>(by cases he),fun s' he => ?_⟩
        cases he
        exact ⟨hl,⟨by rw [hH,hn];rfl,(hN 6 1 (by omega)).symm,(hN 7 1 (by omega)).symm,(hN 8 1 (by omega)).symm,(hN 10 4 (by omega)).symm,(hN 14 4 (by omega)).symm,(hN 18 4 (by omega)).symm⟩,h2,h0,h1⟩
theorem lengthS_small {k:Nat} {zs:List Nat} (h:zs.sum≤65536):lengthS k zs=lenC k zs.sum:=by
  unfold lengthS lenC totalS;rw [if_pos h]
theorem loopP_sum (u:List UInt8):∀ (c a:Nat) (ns:List (List UInt8)) (zs:List Nat) {ns':List (List UInt8)} {zs':List Nat},zs.sum≤65536→loopP u c a ns zs = .ok (ns',zs')→zs'.sum≤65536
  | 0,a,ns,zs,ns',zs',hz,h=>by
    unfold loopP at h
    split at h
    · cases h
    · cases h;exact hz
  | c+1,a,ns,zs,ns',zs',hz,h=>by
    unfold loopP at h
    cases hb:blob1 u a ns zs with
    | error p=>rw [hb] at h;cases h
    | ok x=>
      obtain ⟨nm,z⟩:=x
      rw [hb] at h
      refine loopP_sum u c _ _ _ ?_ h
      unfold blob1 at hb
      split at hb
      · cases hb
      · split at hb
        · cases hb
        · split at hb
          · cases hb
          · cases hb;simp;omega
theorem man_P {s:St} {Z t:List UInt8} (h0:s.nx=1) (h1:s.pl=32) (hh:Head s Z) (hA:At Z s.pl t) (ht:t.length≤s.sz) :
    (∀ e,manP s t = .error e→(e.1=4→Z.length=s.pl+t.length)→parseE Z = .error e)∧(∀ s',manP s t = .ok s' → t.length=s.m+8∧Man s' Z∧s'.col=[]∧s'.nx=1∧s'.pl=32∧s'.m=s.m):=by
  have hz:=sz1 h0
  have hr:=hh.ok
  have hb:4≤s.m:=by
    have h2:=hh.ok
    unfold headE at h2
    split at h2
    · cases h2
    · have:=headR_none h2
      rw [hh.m];omega
  unfold manP
  cases hs:sealP s t with
  | some x=>
    refine ⟨fun e he h4 => ?_,fun s' he=>by cases he⟩
    cases he
    obtain ⟨h5,_⟩:=seal_P hA hz ht hs (fun p hp=>by cases hp;exact h4 rfl)
    rw [h1] at h5
    exact parse_of_names hh (by unfold namesE;rw [h5])
  | none=>
    obtain ⟨h5,h6⟩:=seal_P hA hz ht hs (fun p hp=>by cases hp)
    have hl:=h6 rfl
    have hA2:=hA
    rw [h1] at hA h5
    simp only
    rw [hl,Nat.add_sub_cancel]
    have hU:At Z 32 (part t 0 s.m):=by have:=hA.trans (At.of_part t (j:=0) (n:=s.m) (by omega));exact this
    have hUl:(part t 0 s.m).length=s.m:=part_length (by omega)
    have hnm:namesE Z s.m=upE 32 (listP (part t 0 s.m)):=by
      unfold namesE listP
      rw [h5]
      simp only
      have e4:le Z 32 4=le (part t 0 s.m) 0 4:=hU.num 4 0 (by omega)
      rw [e4]
      by_cases q:1000 < le (part t 0 s.m) 0 4
      · rw [if_pos q,if_pos q];rfl
      · rw [if_neg q,if_neg q]
        exact loop_blobs hU hUl _ 4 [] [] (by omega) (by simp)
    cases hL:listP (part t 0 s.m) with
    | error p=>
      refine ⟨fun e he _ => ?_,fun s' he=>by cases he⟩
      cases he
      refine parse_of_names hh ?_
      rw [hnm,hL,h1];rfl
    | ok x=>
      obtain ⟨ns,zs⟩:=x
      simp only
      have hsm:zs.sum≤65536:=by
        unfold listP at hL
        split at hL
        · cases hL
        · exact loopP_sum _ _ _ _ _ (by simp) hL
      have hnm2:namesE Z s.m = .ok (ns,zs):=by rw [hnm,hL];rfl
      by_cases q:s.ln=lenC s.k zs.sum
      · rw [if_pos q]
        refine ⟨fun e he=>(by cases he),fun s' he => ?_⟩
        cases he
        exact ⟨trivial,⟨⟨hh.ok,hh.k,hh.n,hh.i,hh.c,hh.m,hh.ln⟩,hnm2,by rw [lengthS_small hsm];exact q,rfl,hsm⟩,rfl,h0,h1,rfl⟩
      · rw [if_neg q]
        refine ⟨fun e he _ => ?_,fun s' he=>by cases he⟩
        cases he
        exact parse_of_long hh hnm2 (by rw [lengthS_small hsm];exact q)
end Go.Proofs.YtkpcmfgeanlcnabGreatDoor

/-
  A shard that is to be written: how its lists lie in memory; what may be wrong with it, and its bytes, in plain words.
-/
import Derived.Test.YtkpcmfgeanlcnabGreatDoorScanD
import Derived.Lib.AppendStr
import Derived.Maps.AppendAt
namespace Go.Proofs.YtkpcmfgeanlcnabGreatDoor
open Go.RowKit Go.Deep
def Lies (w:World) (v:Value) (xs:List Value):Prop:=
  ∃ ba cap,v = .slice ba xs.length cap∧xs.length≤cap∧∀ j u,xs[j]? = some u→∃ b off,ba=some ⟨b,off,none⟩∧w.cell? ⟨b,off+j,none⟩=some u
theorem cell_lt {w:World} {p:Addr} {u:Value} (h:w.cell? p=some u):p.block < w.heap.size:=by
  rcases Nat.lt_or_ge p.block w.heap.size with h1 | h1
  · exact h1
  · unfold World.cell? at h
    have:w.heap[p.block]? = none:=by simp [h1]
    rw [this] at h
    split at h <;> simp_all
theorem Lies.below {w w':World} {v:Value} {xs:List Value} (h:Lies w v xs) (hb:Below w.heap.size w w'):Lies w' v xs:=by
  obtain ⟨ba,cap,rfl,hle,hc⟩:=h
  refine ⟨ba,cap,rfl,hle,fun j u hj => ?_⟩
  obtain ⟨b,off,e,hh⟩:=hc j u hj
  exact ⟨b,off,e,(hb.cell (p:=⟨b,off+j,none⟩) (cell_lt hh)).trans hh⟩
def nameV (l:List (List UInt8)):List Value:=l.map fun s=>Value.string ⟨s.toArray⟩
def intV (l:List Int):List Value:=l.map fun z=>Value.int .i64 z
theorem nameV_length (l:List (List UInt8)):(nameV l).length=l.length:=by simp [nameV]
theorem intV_length (l:List Int):(intV l).length=l.length:=by simp [intV]
theorem nameV_at {l:List (List UInt8)} {j:Nat} (h:j < l.length):(nameV l)[j]? = some (.string ⟨(l.getD j []).toArray⟩):=by
  simp [nameV,List.getElem?_map,List.getD_eq_getElem?_getD,List.getElem?_eq_getElem h]
theorem intV_at {l:List Int} {j:Nat} (h:j < l.length):(intV l)[j]? = some (.int .i64 (l.getD j 0)):=by
  simp [intV,List.getElem?_map,List.getD_eq_getElem?_getD,List.getElem?_eq_getElem h]
theorem u8V_get {l:List UInt8} {j:Nat} (h:j < l.length):(u8V l)[j]? = some (.int .u8 (bAt l j:Int)):=by
  obtain ⟨u,hu⟩:∃ u,(u8V l)[j]? = some u:=⟨_,List.getElem?_eq_getElem (by simpa [u8V] using h)⟩
  obtain ⟨_,rfl⟩:=u8V_at hu
  exact hu
def notAfter (a b:List UInt8):Bool:=Op.bytesLess a b || a == b
structure Sh where
  K:Int
  N:Int
  I:Int
  C:Int
  ns:List (List UInt8)
  zs:List Int
  col:List UInt8
def NamesOk (ns:List (List UInt8)):Prop:=∀ i,i < ns.length→(1≤(ns.getD i []).length∧(ns.getD i []).length≤255)∧(0 < i→notAfter (ns.getD i []) (ns.getD (i - 1) [])=false)
def SizesOk (zs:List Int):Prop:=∀ i,i < zs.length→0≤zs.getD i 0
def manN (ns:List (List UInt8)):Nat:=4+(ns.map fun n=>6+n.length).sum
def tot (zs:List Int):Nat:=(zs.map Int.toNat).sum
def lenC (k t:Nat):Nat:=(t+k - 1) / k
structure Sh.Fine (s:Sh):Prop where
  k1:1≤s.K
  kn:s.K≤s.N
  n1:s.N≤128
  i0:0≤s.I
  iN:s.I < s.N
  c1:1≤s.C
  c2:s.C≤65536
structure Sh.Listed (s:Sh):Prop where
  len:s.ns.length=s.zs.length
  names:NamesOk s.ns
  sizes:SizesOk s.zs
structure Sh.Few (s:Sh):Prop where
  blobs:s.ns.length≤1000
  bytes:tot s.zs≤65536
  man:manN s.ns≤300000
def Sh.Long (s:Sh):Prop:=s.col.length=lenC s.K.toNat (tot s.zs)
def Sh.Bad (s:Sh):Prop:=s.I < s.K∧∃ m,m < s.col.length∧tot s.zs≤s.I.toNat*lenC s.K.toNat (tot s.zs)+m∧bAt s.col m≠0
open Classical in
noncomputable def Sh.err (s:Sh):Nat:=
  if ¬ s.Fine then 1 else if ¬ s.Listed then 2 else if ¬ s.Few then 3 else if ¬ s.Long then 15 else if s.Bad then 8 else 0
def manTo (ns:List (List UInt8)) (zs:List Int) (i:Nat):List UInt8:=leB 4 ns.length++(List.range i).flatMap fun j=>leB 2 (ns.getD j []).length++(ns.getD j []++leB 4 (zs.getD j 0).toNat)
theorem manTo_succ (ns:List (List UInt8)) (zs:List Int) (i:Nat):manTo ns zs (i+1)=manTo ns zs i++leB 2 (ns.getD i []).length++ns.getD i []++leB 4 (zs.getD i 0).toNat:=by
  simp [manTo,List.range_succ,List.append_assoc]
def sealB (l:List UInt8):List UInt8:=l++leB 8 (sumOf l)
def manB (s:Sh):List UInt8:=manTo s.ns s.zs s.ns.length
def b8 (x:Int):UInt8:=UInt8.ofNat (x.toNat % 256)
def headB (s:Sh) (m:Nat):List UInt8:=[67,65,73,82,78,49]++([b8 s.K,b8 s.N,b8 s.I,0]++(leB 4 s.C.toNat++(leB 4 m++(leB 4 s.col.length++[0,0]))))
def frameB (c:Nat) (col:List UInt8) (k:Nat):List UInt8:=sealB (part col (k*c) (min c (col.length - k*c)))
def framesTo (c:Nat) (col:List UInt8) (i:Nat):List UInt8:=(List.range i).flatMap (frameB c col)
theorem framesTo_succ (c:Nat) (col:List UInt8) (i:Nat):framesTo c col (i+1)=framesTo c col i++frameB c col i:=by simp [framesTo,List.range_succ]
def nFr (c n:Nat):Nat:=(n+c - 1) / c
def wrB (s:Sh):List UInt8:=sealB (headB s (manB s).length)++sealB (manB s)++framesTo s.C.toNat s.col (nFr s.C.toNat s.col.length)++[68,79,78,69]
theorem nFr_lt {c n k:Nat} (hc:1≤c):k < nFr c n↔k*c < n:=by
  unfold nFr
  rw [Nat.lt_div_iff_mul_lt (by omega)]
  omega
theorem sealB_length (l:List UInt8):(sealB l).length=l.length+8:=by simp [sealB,leB_length]
theorem manTo_length (ns:List (List UInt8)) (zs:List Int):∀ i,(manTo ns zs i).length=4+((List.range i).map fun j=>6+(ns.getD j []).length).sum
  | 0=>by simp [manTo,leB_length]
  | i+1=>by
    rw [manTo_succ]
    simp only [List.length_append,leB_length,manTo_length ns zs i,List.range_succ,List.map_append,List.map_cons,List.map_nil,List.sum_append,List.sum_cons,List.sum_nil]
    omega
theorem range_map_getD {α β:Type} (l:List α) (d:α) (f:α→β):(List.range l.length).map (fun j=>f (l.getD j d))=l.map f:=by
  apply List.ext_getElem
  · simp
  · intro i h1 h2
    have:i < l.length:=by simpa using h1
    simp [List.getD_eq_getElem?_getD,List.getElem?_eq_getElem this]
theorem manB_length (s:Sh):(manB s).length=manN s.ns:=by
  unfold manB manN
  rw [manTo_length,range_map_getD s.ns [] (fun n=>6+n.length)]
def manNto (ns:List (List UInt8)) (i:Nat):Nat:=4+((List.range i).map fun j=>6+(ns.getD j []).length).sum
theorem manNto_succ (ns:List (List UInt8)) (i:Nat):manNto ns (i+1)=manNto ns i+6+(ns.getD i []).length:=by
  simp only [manNto,List.range_succ,List.map_append,List.map_cons,List.map_nil,List.sum_append,List.sum_cons,List.sum_nil]
  omega
theorem manNto_all (ns:List (List UInt8)):manNto ns ns.length=manN ns:=by
  unfold manNto manN
  rw [range_map_getD ns [] (fun n=>6+n.length)]
def totTo (zs:List Int) (i:Nat):Nat:=((List.range i).map fun j=>(zs.getD j 0).toNat).sum
theorem totTo_succ (zs:List Int) (i:Nat):totTo zs (i+1)=totTo zs i+(zs.getD i 0).toNat:=by
  simp [totTo,List.range_succ]
theorem totTo_all (zs:List Int):totTo zs zs.length=tot zs:=by
  unfold totTo tot
  rw [range_map_getD zs 0 Int.toNat]
theorem totTo_mono (zs:List Int) (i:Nat):∀ d,totTo zs i≤totTo zs (i+d)
  | 0=>Nat.le_refl _
  | d+1=>by
    have:=totTo_mono zs i d
    rw [← Nat.add_assoc,totTo_succ]
    omega
theorem totTo_le (zs:List Int) {i:Nat} (h:i≤zs.length):totTo zs i≤tot zs:=by
  rw [← totTo_all]
  have:=totTo_mono zs i (zs.length - i)
  rwa [show i+(zs.length - i)=zs.length by omega] at this
theorem But.of_grown {w w':World} {row:Option Nat} (h:w.grownBy w' row):But w.heap.size (fun k=>row=some k) w w':=
  ⟨h.os,h.tape,h.output,h.size,fun k hk hs=>h.block k hk (fun e=>hs e.symm)⟩
theorem owns_byt {w:World} {base n:Nat} {v:Value} {l:List UInt8} (h:w.ownsRow base 5 1 v n (u8V l)) (hn:0 < n):∃ g c,v = .slice (some ⟨g,0,none⟩) l.length c∧n=l.length∧base≤g∧g < w.heap.size∧n≤c∧Byt w g 0 l:=by
  have hl:l.length=n:=by have:=h.1;rw [u8V_length] at this;omega
  rcases h.2 with ⟨_,h0⟩ | ⟨g,c,cur,rfl,hg,hh,hc,_⟩
  · omega
  refine ⟨g,c,by rw [hl],hl.symm,hg,(Array.getElem?_eq_some_iff.1 hh).1,hc,fun i hi => ?_⟩
  have:=h.cellAt i (by omega)
  rw [Nat.zero_add,this]
  exact u8V_get hi
theorem strCells_u8V (l:List UInt8):Lib.strCells ⟨l.toArray⟩=u8V l:=by
  simp [Lib.strCells,u8V]
end Go.Proofs.YtkpcmfgeanlcnabGreatDoor
namespace Go.Proofs.YtkpcmfgeanlcnabGreatDoor
open Go.RowKit
set_option maxHeartbeats 400000 in
set_option maxRecDepth 100000 in
theorem sum_row (b off len cap:Nat) (xs:List Nat) (hl:xs.length=len) (hx:∀ i,i < len→xs.getD i 0 < 256) (hm:len≤9223372036854775807) (w:World) (hc:∀ i,i < len→w.cell? ⟨b,off+i,none⟩=some (.int .u8 ((xs.getD i 0:Nat):Int)))
    (ht:∀ i,i < 16→w.cell? ⟨2,i,none⟩=some (.int .u64 ((crcTab.getD i 0:Nat):Int))) :
    Calls Tryz.prog 72 #[.slice (some ⟨b,off,none⟩) len cap] w fun e w'=>e = .returned (.int .u64 (crc xs:Nat))∧w' = w:=by
  go_enter Tryz.func72,Tryz.ntmps72
  go_wp2
  go_loop [3,5,8] (fun vs vb vi=>∃ k s:Nat,k≤len∧s < 2 ^ 64∧vs = .int .u64 (s:Int)∧vi = .int .i64 (k:Int)∧Hid (crcL s (xs.drop k)=crcL crcAll xs)) (fun _ _ i=>len - (intOf i).toNat)
  case atStart=>exact ⟨0,crcAll,by omega,crcAll_lt,rfl,rfl,rfl⟩
  case round=>
    obtain ⟨k,s,hk,hs,rfl,rfl,H⟩:=hrel
    by_cases hlt:k < len
    · have hcell:=hc k hlt
      have hb:=hx k hlt
      obtain ⟨x,ex⟩:∃ x,xs.getD k 0=x:=⟨_,rfl⟩
      rw [ex] at hcell hb
      have ey:=u64_xor_lt hs (Nat.lt_trans hb (by decide))
      obtain ⟨y,hy⟩:∃ y,s ^^^ x=y:=⟨_,rfl⟩
      have ly:y < 2 ^ 64:=hy ▸ Nat.xor_lt_two_pow hs (Nat.lt_trans hb (by decide))
      rw [hy] at ey
      obtain ⟨m1,t1,z1,hm1,ht1,lz1,hz1,e1,e2⟩:=four ly
      obtain ⟨m2,t2,z2,hm2,ht2,lz2,hz2,e3,e4⟩:=four lz1
      have hc1:=ht m1 hm1
      have hc2:=ht m2 hm2
      rw [← ht1] at hc1
      rw [← ht2] at hc2
      have G:Hid (crcL z2 (xs.drop (k+1))=crcL crcAll xs):=by
        have hz:z2=crcB s x:=by rw [hz2,hz1,← crcN_add,← hy];rfl
        rw [hz]
        exact crcL_step (by omega) ex H.out
      clear ex hc hx ht ht1 ht2 hz1 hz2 hy H
      go_wp2
      go_round
      case rel=>exact ⟨k+1,z2,by omega,lz2,rfl,by go_num,G⟩
      case measure=>simp [intOf];omega
    · have e:k=xs.length:=by omega
      have G:Hid (s=crcL crcAll xs):=by
        have:=H.out
        rw [e,List.drop_length] at this
        exact this
      clear H hc hx ht
      go_wp2
      go_ret
      exact ⟨ret_u64 (by rw [not_u64 hs,crc,← G.out]),rfl⟩
end Go.Proofs.YtkpcmfgeanlcnabGreatDoor
namespace Go.Proofs.YtkpcmfgeanlcnabGreatDoor
open Go.RowKit Go.Deep
theorem ret_bool' {a b:Bool} (h:a=b):Ending.returned (.bool a) = .returned (.bool b):=by rw [h]
theorem in64 (n:Int) (hn : -9223372036854775808≤n∧n≤9223372036854775807):wrap64 n=n:=(IntWalk.i64_left n).symm.trans (IntWalk.i64_in n hn)
set_option maxHeartbeats 400000 in
set_option maxRecDepth 100000 in
theorem clength_any (K T:Int) (k t:Nat) (hK:K=k) (hT:T=t) (hk:1≤k) (hk2:k≤255) (ht:t≤65536) (w:World) :
    Calls Tryz.prog 44 #[.int .i64 K,.int .i64 T] w fun r w'=>r = .returned (.int .i64 (lenC k t:Nat))∧w' = w:=by
  subst hK hT
  have W1:Hid (((t:Int)+(k:Int) - 1) / (k:Int)=(lenC k t:Nat)):=by
    show ((t:Int)+(k:Int) - 1) / (k:Int)=(lenC k t:Nat)
    rw [show (t:Int)+(k:Int) - 1=((t+k - 1:Nat):Int) by omega,← Int.natCast_ediv];rfl
  go_enter Tryz.func44,Tryz.ntmps44
  go_wp2
  go_ret
  exact ⟨ret_i64 (by rw [W1.out]),rfl⟩
def Tells (r:Ending) (p:Prop):Prop:=∃ b:Bool,r = .returned (.bool b)∧(b=true↔p)
theorem tells_yes {r:Ending} {p:Prop} (h:r = .returned (.bool true)) (hp:p):Tells r p:=⟨true,h,by simp [hp]⟩
theorem tells_no {r:Ending} {p:Prop} (h:r = .returned (.bool false)) (hp:¬ p):Tells r p:=⟨false,h,by simp [hp]⟩
theorem Tells.yes {r:Ending} {p:Prop} (h:Tells r p) (hp:p):r = .returned (.bool true):=by
  obtain ⟨b,rfl,hb⟩:=h
  rw [hb.2 hp]
theorem Tells.no {r:Ending} {p:Prop} (h:Tells r p) (hp:¬ p):r = .returned (.bool false):=by
  obtain ⟨b,rfl,hb⟩:=h
  cases b
  · rfl
  · exact absurd (hb.1 rfl) hp
def FirstNot (l:List UInt8) (F:Int) (r:Ending):Prop:=∃ x:Int,r = .returned (.int .i64 x)∧((x = -1∧∀ m:Nat,F≤(m:Int)→m < l.length→bAt l m=0)∨∃ m:Nat,x=(m:Int)∧F≤(m:Int)∧m < l.length∧bAt l m≠0∧∀ m':Nat,m' < m→F≤(m':Int)→bAt l m' = 0)
set_option maxHeartbeats 1000000 in
set_option maxRecDepth 100000 in
theorem firstNot_any (F:Int) (hF : -1000000000000≤F∧F≤1000000000000) (v:Value) (l:List UInt8) (hl:l.length≤9223372036854775807) (w:World) (h:Lies w v (u8V l)) :
    Calls Tryz.prog 45 #[v,.int .i64 F] w fun r w'=>w' = w∧FirstNot l F r:=by
  obtain ⟨ba,cap,rfl,hcap,hc⟩:=h
  rw [u8V_length] at hcap ⊢
  obtain ⟨f,hf⟩:∃ f:Nat,f=F.toNat:=⟨_,rfl⟩
  have hmax:max (0:Int) F=(f:Int):=by omega
  have hfb:f≤1000000000000:=by omega
  go_enter Tryz.func45,Tryz.ntmps45
  go_wp2
  all_goals
    go_loop [5] (fun vi=>∃ c:Nat,f≤c∧(c≤l.length∨c=f)∧vi = .int .i64 (c:Int)∧∀ m:Nat,m < c→F≤(m:Int)→m < l.length→bAt l m=0) (fun i=>l.length - (intOf i).toNat)
    case atStart=>exact ⟨f,Nat.le_refl _,.inr rfl,by congr 1;omega,fun m hm hm2 _=>by omega⟩
    case round=>
      obtain ⟨c,hfc,hcl,rfl,hz⟩:=hrel
      by_cases hlt:c < l.length
      · obtain ⟨b,off,rfl,hcell⟩:=hc c _ (u8V_get hlt)
        have hb:=bAt_lt l c
        obtain ⟨y,ey⟩:∃ y,bAt l c=y:=⟨_,rfl⟩
        rw [ey] at hcell hb
        have HY:Hid (bAt l c=y):=ey
        have HZ:Hid _:=hz
        have HF:Hid (f=F.toNat):=hf
        clear ey hz hc hmax hf hfb
        by_cases hy:y=0
        · subst hy
          go_wp2
          go_round
          case rel=>
            refine ⟨c+1,by omega,.inl (by omega),by go_num,fun m hm hm2 hm3 => ?_⟩
            rcases Nat.lt_or_ge m c with h1 | h1
            · exact HZ.out m h1 hm2 hm3
            · obtain rfl:m=c:=by omega
              exact HY.out
          case measure=>simp [intOf];omega
        · have hy':((y:Int) == 0)=false:=by simp;omega
          have hy2:((y:Int) != 0)=true:=by simp;omega
          go_wp2
          go_ret
          refine ⟨rfl,_,rfl,.inr ⟨c,rfl,?_,hlt,?_,fun m' h1 h2=>HZ.out m' h1 h2 (by omega)⟩⟩
          · have:=HF.out;omega
          · rw [HY.out];exact hy
      · clear hc
        have HZ:Hid _:=hz
        clear hz
        go_wp2
        go_ret
        exact ⟨rfl,_,rfl,.inl ⟨rfl,fun m h1 h2=>HZ.out m (by omega) h1 h2⟩⟩
set_option maxHeartbeats 1000000 in
set_option maxRecDepth 100000 in
theorem sizesFit_any (v:Value) (zs:List Int) (hl:zs.length≤9223372036854775807) (hz:SizesOk zs) (w:World) (h:Lies w v (intV zs)) :
    Calls Tryz.prog 60 #[v] w fun r w'=>w' = w∧Tells r (tot zs≤65536):=by
  obtain ⟨ba,cap,rfl,hcap,hc⟩:=h
  rw [intV_length] at hcap ⊢
  go_enter Tryz.func60,Tryz.ntmps60
  go_wp2
  go_loop [3,5,8] (fun vr _ vi=>∃ c r:Nat,c≤zs.length∧vi = .int .i64 (c:Int)∧vr = .int .i64 (r:Int)∧Hid (r+totTo zs c=65536)) (fun _ _ i=>zs.length - (intOf i).toNat)
  case atStart=>exact ⟨0,65536,by omega,rfl,rfl,by show _=_;simp [totTo]⟩
  case round=>
    obtain ⟨c,r,hcl,rfl,rfl,H⟩:=hrel
    have hr:r≤65536:=by have:=H.out;omega
    by_cases hlt:c < zs.length
    · obtain ⟨b,off,rfl,hcell⟩:=hc c _ (intV_at hlt)
      have hzc:=hz c hlt
      obtain ⟨z,ez⟩:∃ z:Nat,zs.getD c 0=(z:Int):=⟨(zs.getD c 0).toNat,by omega⟩
      have H2:Hid (totTo zs (c+1)=totTo zs c+z):=by
        show _=_
        rw [totTo_succ,ez];simp
      have H3:Hid (totTo zs (c+1)≤tot zs):=totTo_le zs (by omega)
      rw [ez] at hcell
      clear ez hzc hc hz
      by_cases hbig:r < z
      · have HT:Hid (¬ tot zs≤65536):=by
          show ¬ _
          have:=H.out;have:=H2.out;have:=H3.out;omega
        clear H H2 H3
        go_wp2
        go_ret
        exact ⟨rfl,tells_no rfl HT.out⟩
      · have hle:z≤r:=by omega
        have G:Hid (r - z+totTo zs (c+1)=65536):=by
          show _=_
          have:=H.out;have:=H2.out;omega
        clear H H2 H3
        go_wp2
        go_round
        case rel=>exact ⟨c+1,r - z,by omega,by go_num,by go_num,G⟩
        case measure=>simp [intOf];omega
    · have e:c=zs.length:=by omega
      have HT:Hid (tot zs≤65536):=by
        show _≤_
        have:=H.out
        rw [e,totTo_all] at this
        omega
      clear H hc
      go_wp2
      go_ret
      exact ⟨rfl,tells_yes rfl HT.out⟩
theorem manNto_le (ns:List (List UInt8)) (hn:NamesOk ns):∀ i,i≤ns.length→manNto ns i≤4+261*i
  | 0,_=>by simp [manNto]
  | i+1,h=>by
    have h1:=manNto_le ns hn i (by omega)
    have h2:=(hn i (by omega)).1.2
    rw [manNto_succ]
    omega
set_option maxHeartbeats 1000000 in
set_option maxRecDepth 100000 in
theorem manSize_any (v:Value) (ns:List (List UInt8)) (hl:ns.length≤1000) (hn:NamesOk ns) (w:World) (h:Lies w v (nameV ns)) :
    Calls Tryz.prog 50 #[v] w fun r w'=>r = .returned (.int .i64 (manN ns:Nat))∧w' = w:=by
  obtain ⟨ba,cap,rfl,hcap,hc⟩:=h
  rw [nameV_length] at hcap ⊢
  go_enter Tryz.func50,Tryz.ntmps50
  go_wp2
  go_loop [3,5,8] (fun vr _ vi=>∃ c r:Nat,c≤ns.length∧vi = .int .i64 (c:Int)∧vr = .int .i64 (r:Int)∧Hid (manNto ns c=r)) (fun _ _ i=>ns.length - (intOf i).toNat)
  case atStart=>exact ⟨0,4,by omega,rfl,rfl,by show _=_;simp [manNto]⟩
  case round=>
    obtain ⟨c,r,hcl,rfl,rfl,H⟩:=hrel
    by_cases hlt:c < ns.length
    · obtain ⟨b,off,rfl,hcell⟩:=hc c _ (nameV_at hlt)
      have hzc:=(hn c hlt).1
      have hr:r≤300000:=by have:=manNto_le ns hn c (by omega);rw [H.out] at this;omega
      obtain ⟨s,es⟩:∃ s,ns.getD c []=s:=⟨_,rfl⟩
      have H2:Hid (manNto ns (c+1)=r+6+s.length):=by
        show _=_
        rw [manNto_succ,es,H.out]
      rw [es] at hcell hzc
      have hsz:(ByteArray.mk s.toArray).size=s.length:=by simp [ByteArray.size]
      clear es hc hn H
      go_wp2
      go_round
      case rel=>exact ⟨c+1,r+6+s.length,by omega,by go_num,by go_num,H2⟩
      case measure=>simp [intOf];omega
    · have e:c=ns.length:=by omega
      have HT:Hid (manN ns=r):=by
        show _=_
        rw [← manNto_all,← e];exact H.out
      clear H hc
      go_wp2
      go_ret
      exact ⟨ret_i64 (by rw [HT.out]),rfl⟩
theorem ba_size (s:List UInt8):(ByteArray.mk s.toArray).size=s.length:=by simp [ByteArray.size]
set_option maxHeartbeats 400000 in
set_option maxRecDepth 100000 in
theorem nameFits_yes (s:List UInt8) (h:1≤s.length∧s.length≤255) (w:World) :
    Calls Tryz.prog 30 #[.string ⟨s.toArray⟩] w fun r w'=>r = .returned (.bool true)∧w' = w:=by
  have hsz:=ba_size s
  go_enter Tryz.func30,Tryz.ntmps30
  go_wp2
  go_ret
  exact ⟨ret_bool' (by simp;omega),rfl⟩
set_option maxHeartbeats 400000 in
set_option maxRecDepth 100000 in
theorem nameFits_no (s:List UInt8) (h:¬ (1≤s.length∧s.length≤255)) (hs:s.length≤9223372036854775807) (w:World) :
    Calls Tryz.prog 30 #[.string ⟨s.toArray⟩] w fun r w'=>r = .returned (.bool false)∧w' = w:=by
  have hsz:=ba_size s
  rcases Nat.eq_zero_or_pos s.length with h0 | h0
  · rw [h0] at hsz
    clear h h0
    go_enter Tryz.func30,Tryz.ntmps30
    go_wp2
    go_ret
    exact ⟨rfl,rfl⟩
  · have h1:255 < s.length:=by omega
    clear h
    go_enter Tryz.func30,Tryz.ntmps30
    go_wp2
    go_ret
    exact ⟨ret_bool' (by simp;omega),rfl⟩
def ListedTo (ns:List (List UInt8)) (zs:List Int) (c:Nat):Prop:=∀ i,i < c→((1≤(ns.getD i []).length∧(ns.getD i []).length≤255)∧(0 < i→notAfter (ns.getD i []) (ns.getD (i - 1) [])=false))∧0≤zs.getD i 0
theorem ListedTo.next {ns:List (List UInt8)} {zs:List Int} {c:Nat} (h:ListedTo ns zs c) (h1:1≤(ns.getD c []).length∧(ns.getD c []).length≤255) (h2:0 < c→notAfter (ns.getD c []) (ns.getD (c - 1) [])=false) (h3:0≤zs.getD c 0):ListedTo ns zs (c+1):=by
  intro i hi
  rcases Nat.lt_or_ge i c with x | x
  · exact h i x
  · obtain rfl:i=c:=by omega
    exact ⟨⟨h1,h2⟩,h3⟩
def ListOk (ns:List (List UInt8)) (zs:List Int):Prop:=ns.length=zs.length∧NamesOk ns∧SizesOk zs
theorem ListedTo.all {ns:List (List UInt8)} {zs:List Int} (hl:ns.length=zs.length) (h:ListedTo ns zs ns.length):ListOk ns zs:=
  ⟨hl,fun i hi=>(h i hi).1,fun i hi=>(h i (by omega)).2⟩
set_option maxHeartbeats 2000000 in
set_option maxRecDepth 100000 in
theorem listFits_any (vN vS:Value) (ns:List (List UInt8)) (zs:List Int) (hn:ns.length≤9223372036854775807) (hs:∀ n∈ns,n.length≤9223372036854775807) (w:World) (h1:Lies w vN (nameV ns)) (h2:Lies w vS (intV zs)) :
    Calls Tryz.prog 42 #[vN,vS] w fun r w'=>w' = w∧Tells r (ListOk ns zs):=by
  obtain ⟨ba,cap,rfl,hcap,hc⟩:=h1
  obtain ⟨bz,capz,rfl,hcapz,hcz⟩:=h2
  rw [nameV_length] at hcap ⊢
  rw [intV_length] at hcapz ⊢
  by_cases hlen:ns.length=zs.length
  · have hle2:(zs.length:Int)=(ns.length:Int):=by omega
    have HL:Hid (ns.length=zs.length):=hlen
    have hzs:∀ c,c < ns.length→c < zs.length:=fun c hc=>by omega
    rw [← hlen] at hcapz ⊢
    clear hlen hle2
    go_enter Tryz.func42,Tryz.ntmps42
    go_wp2
    go_loop [5,6,14] (fun _ _ vi=>∃ c:Nat,c≤ns.length∧vi = .int .i64 (c:Int)∧Hid (ListedTo ns zs c)) (fun _ _ i=>ns.length - (intOf i).toNat)
    case atStart=>exact ⟨0,by omega,rfl,fun i hi=>by omega⟩
    case round=>
      obtain ⟨c,hcl,rfl,H⟩:=hrel
      by_cases hlt:c < ns.length
      · obtain ⟨b,off,rfl,hcell⟩:=hc c _ (nameV_at hlt)
        obtain ⟨b2,off2,rfl,hcell2⟩:=hcz c _ (intV_at (hzs c hlt))
        have hsc:(ns.getD c []).length≤9223372036854775807:=by
          rw [List.getD_eq_getElem?_getD,List.getElem?_eq_getElem hlt]
          exact hs _ (List.getElem_mem _)
        obtain ⟨s,es⟩:∃ s,ns.getD c []=s:=⟨_,rfl⟩
        obtain ⟨z,ez⟩:∃ z,zs.getD c 0=z:=⟨_,rfl⟩
        rw [es] at hcell hsc
        rw [ez] at hcell2
        have ES:Hid (ns.getD c []=s):=es
        have EZ:Hid (zs.getD c 0=z):=ez
        have hzc:=hzs c hlt
        have HZC:Hid (c < zs.length):=hzc
        clear es ez hzc hcz hs hzs
        have bad:Hid ((1≤s.length∧s.length≤255)→0≤z→(0 < c→notAfter s (ns.getD (c - 1) [])=false)→False)→Hid (¬ ListOk ns zs):=by
          intro hb
          show ¬ ListOk ns zs
          rintro ⟨_,g1,g2⟩
          have g1':=g1 c hlt
          have g2':=g2 c HZC.out
          rw [ES.out] at g1'
          rw [EZ.out] at g2'
          exact hb.out g1'.1 g2' g1'.2
        by_cases q1:1≤s.length∧s.length≤255
        · by_cases q2:0≤z
          · have HQ1:Hid (1≤s.length∧s.length≤255):=q1
            have HQ2:Hid (0≤z):=q2
            clear q1
            cases c with
            | zero=>
              have HN:Hid (ListedTo ns zs (0+1)):=H.out.next (by rw [ES.out];exact HQ1.out) (fun h=>by omega) (by rw [EZ.out];exact HQ2.out)
              clear bad H hc HZC
              simp only [Nat.add_zero] at hcell hcell2
              go_wp2_with (first | (go_at_call 30;refine (nameFits_yes s HQ1.out _).mono ?_;rintro r w' ⟨rfl,hw'⟩;obtain rfl:=hw'.symm))
              go_round
              case rel=>exact ⟨1,by omega,by go_num,HN⟩
              case measure=>simp [intOf];omega
            | succ c0=>
              obtain ⟨b3,off3,e3,hcell3⟩:=hc c0 _ (nameV_at (by omega))
              injection e3 with e3
              injection e3 with e4 e5
              subst e4 e5
              obtain ⟨la,el⟩:∃ la,ns.getD c0 []=la:=⟨_,rfl⟩
              rw [el] at hcell3
              have EL:Hid (ns.getD c0 []=la):=el
              have hlb:(c0:Int) < (ns.length:Int):=by omega
              have e1:(((c0+1:Nat):Int)) - 1=(c0:Int):=by omega
              clear el hc
              rcases hq1:Op.bytesLess s la with _ | _
              · rcases hq2:(s == la) with _ | _
                · have HN:Hid (ListedTo ns zs (c0+1+1)):=H.out.next (by rw [ES.out];exact HQ1.out) (fun h=>by rw [ES.out,Nat.add_sub_cancel,EL.out];unfold notAfter;rw [hq1,hq2];rfl) (by rw [EZ.out];exact HQ2.out)
                  clear bad H HZC
                  go_wp2_with (first | (go_at_call 30;refine (nameFits_yes s HQ1.out _).mono ?_;rintro r w' ⟨rfl,hw'⟩;obtain rfl:=hw'.symm))
                  go_round
                  case rel=>exact ⟨c0+1+1,by omega,by go_num,HN⟩
                  case measure=>simp [intOf];omega
                · have HB:Hid (¬ ListOk ns zs):=bad fun _ _ h=>by
                    have:=h (by omega)
                    rw [Nat.add_sub_cancel,EL.out] at this
                    unfold notAfter at this
                    rw [hq1,hq2] at this
                    cases this
                  clear bad H HZC
                  go_wp2_with (first | (go_at_call 30;refine (nameFits_yes s HQ1.out _).mono ?_;rintro r w' ⟨rfl,hw'⟩;obtain rfl:=hw'.symm))
                  go_ret
                  exact ⟨rfl,tells_no rfl HB.out⟩
              · have HB:Hid (¬ ListOk ns zs):=bad fun _ _ h=>by
                  have:=h (by omega)
                  rw [Nat.add_sub_cancel,EL.out] at this
                  unfold notAfter at this
                  rw [hq1] at this
                  cases this
                clear bad H HZC
                go_wp2_with (first | (go_at_call 30;refine (nameFits_yes s HQ1.out _).mono ?_;rintro r w' ⟨rfl,hw'⟩;obtain rfl:=hw'.symm))
                go_ret
                exact ⟨rfl,tells_no rfl HB.out⟩
          · have HB:Hid (¬ ListOk ns zs):=bad fun _ h _=>q2 h
            have HQ1:Hid (1≤s.length∧s.length≤255):=q1
            have q2':z < 0:=by omega
            clear bad H hc HZC q1 q2
            go_wp2_with (first | (go_at_call 30;refine (nameFits_yes s HQ1.out _).mono ?_;rintro r w' ⟨rfl,hw'⟩;obtain rfl:=hw'.symm))
            go_ret
            exact ⟨rfl,tells_no rfl HB.out⟩
        · have HB:Hid (¬ ListOk ns zs):=bad fun h _ _=>q1 h
          have HQ1:Hid (¬ (1≤s.length∧s.length≤255)):=q1
          clear bad H hc HZC q1
          go_wp2_with (first | (go_at_call 30;refine (nameFits_no s HQ1.out hsc _).mono ?_;rintro r w' ⟨rfl,hw'⟩;obtain rfl:=hw'.symm))
          go_ret
          exact ⟨rfl,tells_no rfl HB.out⟩
      · have e:c=ns.length:=by omega
        have HA:Hid (ListOk ns zs):=ListedTo.all HL.out (e ▸ H.out)
        clear H hc hcz hs hzs
        go_wp2
        go_ret
        exact ⟨rfl,tells_yes rfl HA.out⟩
  · have HB:Hid (¬ ListOk ns zs):=fun h=>hlen h.1
    have hne:((ns.length:Int) == (zs.length:Int))=false:=by simp;omega
    have hne2:((ns.length:Int) != (zs.length:Int))=true:=by simp;omega
    clear hc hcz hs hlen
    go_enter Tryz.func42,Tryz.ntmps42
    go_wp2
    go_ret
    exact ⟨rfl,tells_no rfl HB.out⟩
def FewOk (ns:List (List UInt8)) (zs:List Int):Prop:=ns.length≤1000∧tot zs≤65536∧manN ns≤300000
set_option maxHeartbeats 2000000 in
set_option maxRecDepth 100000 in
theorem contentFits_any (vN vS:Value) (ns:List (List UInt8)) (zs:List Int) (hn:ns.length≤9223372036854775807) (hzl:zs.length≤9223372036854775807) (hok:ListOk ns zs) (w:World) (h1:Lies w vN (nameV ns)) (h2:Lies w vS (intV zs)) :
    Calls Tryz.prog 35 #[vN,vS] w fun r w'=>w' = w∧Tells r (FewOk ns zs):=by
  obtain ⟨ba,cap,rfl,hcap,hc⟩:=id h1
  rw [nameV_length] at hcap h1 ⊢
  by_cases q1:ns.length≤1000
  · have K1:=sizesFit_any vS zs hzl hok.2.2 w h2
    by_cases q2:tot zs≤65536
    · have K2:=manSize_any _ ns q1 hok.2.1 w h1
      obtain ⟨m,em⟩:∃ m,manN ns=m:=⟨_,rfl⟩
      have EM:Hid (manN ns=m):=em
      rw [em] at K2
      have hm:m≤1000000000:=by
        have:=manNto_le ns hok.2.1 ns.length (Nat.le_refl _)
        rw [manNto_all,em] at this
        omega
      have Q2:Hid (tot zs≤65536):=q2
      clear h1 h2 hc em hok q2
      go_enter Tryz.func35,Tryz.ntmps35
      go_wp2_with (first | (go_at_call 60;refine K1.mono ?_;rintro r w' ⟨hw',hb⟩;obtain rfl:=hb.yes Q2.out;obtain rfl:=hw'.symm) | (go_at_call 50;refine K2.mono ?_;rintro r w' ⟨rfl,hw'⟩;obtain rfl:=hw'.symm))
      go_ret
      by_cases q3:m≤300000
      · exact ⟨rfl,tells_yes (ret_bool' (by simp;omega)) ⟨q1,Q2.out,by rw [EM.out];exact q3⟩⟩
      · exact ⟨rfl,tells_no (ret_bool' (by simp;omega)) fun h=>q3 (by have:=h.2.2;rw [EM.out] at this;exact this)⟩
    · have Q2:Hid (¬ tot zs≤65536):=q2
      clear h1 h2 hc hok q2
      go_enter Tryz.func35,Tryz.ntmps35
      go_wp2_with (first | (go_at_call 60;refine K1.mono ?_;rintro r w' ⟨hw',hb⟩;obtain rfl:=hb.no Q2.out;obtain rfl:=hw'.symm))
      go_ret
      exact ⟨rfl,tells_no rfl fun h=>Q2.out h.2.1⟩
  · clear h1 h2 hc
    go_enter Tryz.func35,Tryz.ntmps35
    go_wp2
    go_ret
    exact ⟨rfl,tells_no rfl fun h=>q1 h.1⟩
end Go.Proofs.YtkpcmfgeanlcnabGreatDoor

/-
  What the program takes from blobs: their names and sizes (content), their bytes (join): run alone.
-/
import Derived.Test.YtkpcmfgeanlcnabGreatDoorWrG
import Derived.Laws.AppendOwnNone
import Derived.Test.YtkpcmfgeanlcnabGreatDoorHpA
import Derived.Test.YtkpcmfgeanlcnabGreatDoorSame
import Derived.Test.YtkpcmfgeanlcnabGreatDoorWrE
import Derived.BigQuiet
namespace Go.Proofs.YtkpcmfgeanlcnabGreatDoor
open Go.RowKit Go.Deep Go.Hp
theorem Tryz.infoNm:(Tryz.prog.info? 9).map (fun i=>(i.zero,i.size,i.bytes))=some (some (.string ⟨#[]⟩),1,16):=by kernel_rfl
theorem Tryz.infoIn:(Tryz.prog.info? 3).map (fun i=>(i.zero,i.size,i.bytes))=some (some (.int .i64 0),1,8):=by kernel_rfl
def namesOf (n:Nat) (f:Nat→Ent):List (List UInt8):=(List.range n).map fun i=>(f i).k
def sizesOf (n:Nat) (f:Nat→Ent):List Int:=(List.range n).map fun i=>((f i).l:Int)
theorem namesOf_length (n:Nat) (f:Nat→Ent):(namesOf n f).length=n:=by simp [namesOf]
theorem sizesOf_length (n:Nat) (f:Nat→Ent):(sizesOf n f).length=n:=by simp [sizesOf]
theorem namesV_succ (n:Nat) (f:Nat→Ent):nameV (namesOf (n+1) f)=nameV (namesOf n f)++[.string ⟨(f n).k.toArray⟩]:=by simp [nameV,namesOf,List.range_succ]
theorem sizesV_succ (n:Nat) (f:Nat→Ent):intV (sizesOf (n+1) f)=intV (sizesOf n f)++[.int .i64 ((f n).l:Int)]:=by simp [intV,sizesOf,List.range_succ]
theorem one_strD (x:ByteArray):∀ u∈[Value.string x],u.oneCell' = true:=by
  intro u hu
  simp at hu
  subst hu
  rfl
theorem one_intD (x:Int):∀ u∈[Value.int .i64 x],u.oneCell' = true:=by
  intro u hu
  simp at hu
  subst hu
  rfl
theorem cell_one_newD (w:World) (x:Value) (t:TypeId):∀ j u,[x][j]? = some u→(w.alloc (.cells #[x] t)).cell? ((⟨w.heap.size,0,none⟩:Addr).add j)=some u:=by
  intro j u hj
  match j,hj with
  | 0,hj=>simp at hj;subst hj;simp [Addr.add]
def ContPost (n:Nat) (f:Nat→Ent) (w:World) (r:Ending) (w':World):Prop:=Below w.heap.size w w' ∧ ∃ vn vs,r = .returned (.tuple #[vn,vs])∧w'.ownsRow w.heap.size 9 1 vn n (nameV (namesOf n f))∧w'.ownsRow w.heap.size 3 1 vs n (intV (sizesOf n f))
theorem app_keep {w wa w1:World} {B t t' s s' n n':Nat} {v v':Value} {xs xs':List Value} (h:w.ownsRow B t s v n xs) (h':w.ownsRow B t' s' v' n' xs') (ht:t≠t') (ha:Below w.heap.size w wa) (hg:wa.grownBy w1 v.ownBlock):w1.ownsRow B t' s' v' n' xs':=
  owns_keep' h' fun g hg'=>(hg.block g (Nat.lt_of_lt_of_le (h'.lt g hg').2 ha.size) (fun e=>kind_ne h h' ht e.symm hg')).trans (ha.block g (h'.lt g hg').2)
theorem app_below {w wa w1:World} {B h0 t s n:Nat} {v:Value} {xs:List Value} (h:w.ownsRow B t s v n xs) (hB:B≤w.heap.size) (ha:Below w.heap.size w wa) (hg:wa.grownBy w1 v.ownBlock) (_:h0≤B):Below B w w1:=
  (ha.mono hB).grown hg (Nat.le_trans hB ha.size) (fun x hx=>(h.lt x hx).1)
set_option maxHeartbeats 4000000 in
set_option maxRecDepth 100000 in
theorem content_any (n cap:Nat) (bo:Option Addr) (f:Nat→Ent) (w:World) (hn:n≤1048576) (hB:BC w bo n f) :
    Calls Tryz.prog 34 #[.slice bo n cap] w fun r w'=>ContPost n f w r w':=by
  obtain ⟨i0,hi0,hz0,hz1,hz2⟩:=info_parts Tryz.infoNm
  obtain ⟨i1,hi1,hy0,hy1,hy2⟩:=info_parts Tryz.infoIn
  have p0:w.ownsRow w.heap.size 9 1 (.slice none 0 0) 0 (nameV (namesOf 0 f)):=World.ownsRow_nil _ _ _ _
  have q0:w.ownsRow w.heap.size 3 1 (.slice none 0 0) 0 (intV (sizesOf 0 f)):=World.ownsRow_nil _ _ _ _
  go_enter Tryz.func34,Tryz.ntmps34
  go_wp2
  generalize hh:w.heap.size=h at *
  go_loopw [2,3,8] (fun va vb vi wr=>∃ (i:Nat),i≤n∧vi = .int .i64 ((i:Nat):Int)∧wr.ownsRow h 9 1 va i (nameV (namesOf i f))∧wr.ownsRow h 3 1 vb i (intV (sizesOf i f))∧Below h w wr∧h≤wr.heap.size) (fun _ _ vi _=>n - (intOf vi).toNat)
  case atStart=>exact ⟨0,by omega,rfl,p0,q0,Below.refl _ _,by omega⟩
  case round=>
    clear p0 q0
    obtain ⟨i,hi,rfl,hp,hq,hb,hs⟩:=hrel
    by_cases hlt:i < n
    · have hlt':(i:Int) < (n:Int):=by omega
      obtain ⟨b,o,rfl,hbl,hcell⟩:=(hB.below hb (by omega)).here (by omega)
      obtain ⟨c0,c1⟩:=hcell i hlt
      clear hcell
      obtain ⟨e0,e1⟩:=new_blob wr (f i)
      have hp1:=hp.alloc (.cells #[.string ⟨(f i).k.toArray⟩,.slice (f i).a (f i).l (f i).c] 42)
      have hq1:=hq.alloc (.cells #[.string ⟨(f i).k.toArray⟩,.slice (f i).a (f i).l (f i).c] 42)
      have hb1:=hb.alloc (by omega) (.cells #[.string ⟨(f i).k.toArray⟩,.slice (f i).a (f i).l (f i).c] 42)
      have hs1:h≤(wr.alloc (.cells #[.string ⟨(f i).k.toArray⟩,.slice (f i).a (f i).l (f i).c] 42)).heap.size:=by simp;omega
      have nb:(wr.alloc (.cells #[.string ⟨(f i).k.toArray⟩,.slice (f i).a (f i).l (f i).c] 42)).ownsRow h 42 2 (.slice (some ⟨wr.heap.size,0,none⟩) 1 1) 1 (blobC (f i)):=
        ⟨rfl,.inr ⟨wr.heap.size,1,#[.string ⟨(f i).k.toArray⟩,.slice (f i).a (f i).l (f i).c],rfl,hs,heap_alloc_new _ _,by omega,by unfold maxLen;omega,rfl,rfl⟩⟩
      simp only [strV,Ent.d] at c0 c1
      clear hp hq hb
      generalize hw1:wr.alloc (.cells #[.string ⟨(f i).k.toArray⟩,.slice (f i).a (f i).l (f i).c] 42)=w1 at *
      go_wp2_with (first
        | (at_builtin;refine wpList_append_own _ rfl _ _ 34 rfl h 9 i0 (.string ⟨#[]⟩) 1 16 Tryz.underlying34 hi0 hz0 hz1 hz2 rfl (by decide) _ _ _ rfl (hp1.alloc _) ⟨w1.heap.size,0,none⟩ 1 1 [.string ⟨(f i).k.toArray⟩] rfl rfl (cell_one_newD _ _ _) (one_strD _) (by unfold maxLen;omega) (by omega) (by simp;omega) ?_;intro v2 w2 hp2 hgrow _;have hq2:=app_keep hp1 hq1 (by decide) ((Below.refl w1.heap.size w1).alloc (Nat.le_refl _) _) hgrow;have nb2:=app_keep hp1 nb (by decide) ((Below.refl w1.heap.size w1).alloc (Nat.le_refl _) _) hgrow;have hb2:=hb1.trans (app_below hp1 hs1 ((Below.refl w1.heap.size w1).alloc (Nat.le_refl _) _) hgrow (Nat.le_refl _));have hs2:h≤w2.heap.size:=hh ▸ hb2.size;have e1':w2.cell? ⟨wr.heap.size,1,none⟩=some (.slice (f i).a (f i).l (f i).c):=nb2.cellAt 1 (by omega);clear hgrow hp1 hq1 nb hb1 e0 e1 c0 c1)
        | (at_builtin;refine wpList_append_own _ rfl _ _ 22 rfl h 3 i1 (.int .i64 0) 1 8 Tryz.underlying22 hi1 hy0 hy1 hy2 rfl (by decide) _ _ _ rfl (hq2.alloc _) ⟨w2.heap.size,0,none⟩ 1 1 [.int .i64 ((f i).l:Int)] rfl rfl (cell_one_newD _ _ _) (one_intD _) (by unfold maxLen;omega) (by omega) (by simp;omega) ?_;intro v3 w3 hq3 hgrow _;have hp3:=app_keep hq2 hp2 (by decide) ((Below.refl w2.heap.size w2).alloc (Nat.le_refl _) _) hgrow;have hb3:=hb2.trans (app_below hq2 hs2 ((Below.refl w2.heap.size w2).alloc (Nat.le_refl _) _) hgrow (Nat.le_refl _));clear hgrow hq2 hp2 hb2 e1'))
      go_roundw
      case rel=>exact ⟨i+1,by omega,by go_num,by rw [namesV_succ];exact hp3,by rw [sizesV_succ];exact hq3,hb3,hh ▸ hb3.size⟩
      case measure=>simp [intOf];omega
    · obtain rfl:i=n:=by omega
      have hnl:¬ ((i:Int) < (i:Int)):=by omega
      go_wp2
      go_ret2
      exact ⟨by rw [hh];exact hb,_,_,rfl,by rw [hh];exact hp,by rw [hh];exact hq⟩
theorem addr_addD (b o j:Nat):(⟨b,o,none⟩:Addr).add j=⟨b,o+j,none⟩:=by
  simp only [Addr.add]
  split
  · rename_i h;subst h;rfl
  · rfl
def DataAt (w:World) (e:Ent) (d:List UInt8):Prop:=d.length=e.l∧((e.a=none∧e.l=0∧e.c=0)∨∃ ad:Addr,e.a=some ad∧∀ j u,(u8V d)[j]? = some u→w.cell? (ad.add j)=some u)
theorem DataAt.below {w w':World} {e:Ent} {d:List UInt8} {B:Nat} (h:DataAt w e d) (hb:Below B w w') (hB:w.heap.size≤B):DataAt w' e d:=by
  refine ⟨h.1,?_⟩
  rcases h.2 with h2 | ⟨ad,h2,h4⟩
  · exact .inl h2
  · exact .inr ⟨ad,h2,fun j u hj=>(hb.cell (p:=ad.add j) (Nat.lt_of_lt_of_le (cell_lt (h4 j u hj)) hB)).trans (h4 j u hj)⟩
def joinD (D:Nat→List UInt8):Nat→List UInt8
  | 0=>[]
  | n+1=>joinD D n++D n
theorem u8V_oneD (l:List UInt8):∀ u∈u8V l,u.oneCell' = true:=by
  intro u hu
  simp [u8V] at hu
  obtain ⟨_,_,rfl⟩:=hu
  rfl
theorem joinD_le (D:Nat→List UInt8) {i n:Nat} (h:i≤n):(joinD D i).length≤(joinD D n).length:=by
  induction n with
  | zero => obtain rfl:i=0:=by omega
            exact Nat.le_refl _
  | succ n ih=>
    by_cases e:i=n+1
    · rw [e];exact Nat.le_refl _
    · have:=ih (by omega)
      simp only [joinD,List.length_append]
      omega
set_option maxHeartbeats 4000000 in
set_option maxRecDepth 100000 in
theorem join_any (n cap:Nat) (bo:Option Addr) (f:Nat→Ent) (D:Nat→List UInt8) (w:World) (hn:n≤1048576) (hB:BC w bo n f) (hD:∀ i,i < n→DataAt w (f i) (D i)) (ht:(joinD D n).length≤1048576) :
    Calls Tryz.prog 37 #[.slice bo n cap] w fun r w'=>Below w.heap.size w w' ∧ ∃ v,r = .returned v∧OwnB w.heap.size w' v (joinD D n):=by
  obtain ⟨i0,hi0,hz0,hz1,hz2⟩:=info_parts infoB8
  have p0:w.ownsRow w.heap.size 5 1 (.slice none 0 0) (joinD D 0).length (u8V (joinD D 0)):=World.ownsRow_nil _ _ _ _
  go_enter Tryz.func37,Tryz.ntmps37
  go_wp2
  generalize hh:w.heap.size=h at *
  go_loopw [3,8] (fun va vi wr=>∃ (i:Nat),i≤n∧vi = .int .i64 ((i:Nat):Int)∧wr.ownsRow h 5 1 va (joinD D i).length (u8V (joinD D i))∧Below h w wr∧h≤wr.heap.size) (fun _ vi _=>n - (intOf vi).toNat)
  case atStart=>exact ⟨0,by omega,rfl,p0,Below.refl _ _,by omega⟩
  case round=>
    clear p0
    obtain ⟨i,hi,rfl,hp,hb,hs⟩:=hrel
    by_cases hlt:i < n
    · have hlt':(i:Int) < (n:Int):=by omega
      obtain ⟨b,o,rfl,hbl,hcell⟩:=(hB.below hb (by omega)).here (by omega)
      obtain ⟨c0,c1⟩:=hcell i hlt
      have hd:=(hD i hlt).below hb (by omega)
      have hlen:(joinD D i).length+(D i).length≤1048576:=by
        have:=joinD_le D (i:=i+1) (n:=n) (by omega)
        simp only [joinD,List.length_append] at this
        omega
      clear hcell
      obtain ⟨e0,e1⟩:=new_blob wr (f i)
      have hp1:=hp.alloc (.cells #[.string ⟨(f i).k.toArray⟩,.slice (f i).a (f i).l (f i).c] 42)
      have hb1:=hb.alloc (by omega) (.cells #[.string ⟨(f i).k.toArray⟩,.slice (f i).a (f i).l (f i).c] 42)
      have hd1:=hd.below ((Below.refl wr.heap.size wr).alloc (Nat.le_refl _) (.cells #[.string ⟨(f i).k.toArray⟩,.slice (f i).a (f i).l (f i).c] 42)) (Nat.le_refl _)
      have hs1:h≤(wr.alloc (.cells #[.string ⟨(f i).k.toArray⟩,.slice (f i).a (f i).l (f i).c] 42)).heap.size:=by simp;omega
      simp only [strV,Ent.d] at c0 c1
      clear hp hb hd
      rcases hd1 with ⟨hdl,hd1⟩
      rcases hd1 with ⟨ea,el,ec⟩ | ⟨ad,ea,hcd⟩
      · have hnil:D i=[]:=List.length_eq_zero_iff.1 (by omega)
        rw [ea,el,ec] at hp1 hb1 hs1 e0 e1 c1
        clear hdl
        clear ea el ec
        go_wp2_with (at_builtin;go_loud (refine wpList_append_own_none rfl _ _ 33 rfl h 5 i0 1 Tryz.underlying33 hi0 _ _ _ rfl hp1 rfl ?_))
        go_roundw
        case rel=>exact ⟨i+1,by omega,by go_num,by simp only [joinD,hnil,List.append_nil];exact hp1,hb1,hs1⟩
        case measure=>simp [intOf];omega
      · rw [ea] at hp1 hb1 hs1 e0 e1 c1 hcd
        clear ea
        generalize hw1:wr.alloc (.cells #[.string ⟨(f i).k.toArray⟩,.slice (some ad) (f i).l (f i).c] 42)=w1 at *
        go_wp2_with (at_builtin;go_loud (refine wpList_append_own _ rfl _ _ 33 rfl h 5 i0 (.int .u8 0) 1 1 Tryz.underlying33 hi0 hz0 hz1 hz2 rfl (by decide) _ _ _ rfl hp1 ad (f i).l (f i).c (u8V (D i)) rfl (by simp [u8V];omega) (fun j u hj=>hcd j u hj) (u8V_oneD _) (by unfold maxLen;omega) (by omega) hs1 ?_;intro v2 w2 hp2 hgrow _))
        have hb2:=hb1.trans (app_below hp1 hs1 (Below.refl _ _) hgrow (Nat.le_refl _))
        clear hgrow hp1 hb1
        go_roundw
        case rel=>exact ⟨i+1,by omega,by go_num,by rw [show (joinD D (i+1)).length=(joinD D i).length+(f i).l by simp [joinD,hdl],show u8V (joinD D (i+1))=u8V (joinD D i)++u8V (D i) by simp [joinD,u8V]];exact hp2,hb2,hh ▸ hb2.size⟩
        case measure=>simp [intOf];omega
    · obtain rfl:i=n:=by omega
      have hnl:¬ ((i:Int) < (i:Int)):=by omega
      go_wp2
      go_ret
      exact ⟨hb,_,rfl,hp⟩
end Go.Proofs.YtkpcmfgeanlcnabGreatDoor
namespace Go.Hp
def Srt (n:Nat) (f:Nat→Ent):Prop:=∀ i,i+1 < n→le (f i).k (f (i+1)).k
structure MS (h m:Nat) (f L R:Nat→Ent) (i j:Nat) (out:Nat→Ent):Prop where
  re:Rearr (h+m) f (fun x=>if x < i+j then out x else if x < j+h then L (x - j) else R (x - h))
  so:Srt (i+j) out
  lo:0 < i+j→∀ x,i≤x→x < h→le (out (i+j - 1)).k (L x).k
  hi:0 < i+j→∀ x,j≤x→x < m→le (out (i+j - 1)).k (R x).k
theorem mono_id {n:Nat} {s:Nat→Nat} (hs:∀ i,i < n→s i < n) (hm:∀ i,i+1 < n→s i < s (i+1)):∀ i,i < n→s i=i:=by
  have h1:∀ i,i < n→i≤s i:=by
    intro i
    induction i with
    | zero=>intro _;omega
    | succ i ih=>intro hi;have:=ih (by omega);have:=hm i hi;omega
  have h2:∀ d i,i+d+1=n→s i≤i:=by
    intro d
    induction d with
    | zero=>intro i hi;have:=hs i (by omega);omega
    | succ d ih=>intro i hi;have:=ih (i+1) (by omega);have:=hm i (by omega);omega
  intro i hi
  have:=h1 i hi
  have:=h2 (n - i - 1) i (by omega)
  omega
theorem sorted_one {n:Nat} {f g g':Nat→Ent} (a:Rearr n f g) (b:Rearr n f g') (hg:∀ i,i+1 < n→lt (g i).k (g (i+1)).k=true) (hg':Srt n g'):∀ i,i < n→g' i=g i:=by
  obtain ⟨s,t,h1,h2⟩:=a.symm.trans b
  have far:∀ d i,i+d+1 < n→lt (g i).k (g (i+d+1)).k=true:=by
    intro d
    induction d with
    | zero=>intro i hi;exact hg i hi
    | succ d ih=>intro i hi;exact lt_trans (ih i (by omega)) (hg (i+d+1) (by omega))
  have hm:∀ i,i+1 < n→s i < s (i+1):=by
    intro i hi
    rcases Nat.lt_trichotomy (s i) (s (i+1)) with h | h | h
    · exact h
    · have e1:=(h1 i (by omega)).2.2.1
      have e2:=(h1 (i+1) hi).2.2.1
      rw [h,e2] at e1
      omega
    · have q:=far (s i - s (i+1) - 1) (s (i+1)) (by have:=(h1 i (by omega)).1;omega)
      rw [show s (i+1)+(s i - s (i+1) - 1)+1=s i by omega] at q
      have:=hg' i hi
      rw [h2 i (by omega),h2 (i+1) hi] at this
      unfold Hp.le at this
      rw [this] at q
      cases q
  have hid:=mono_id (fun i hi=>(h1 i hi).1) hm
  intro i hi
  rw [h2 i hi,hid i hi]
end Go.Hp
namespace Go.Proofs.YtkpcmfgeanlcnabGreatDoor
open Go.RowKit Go.Deep Go.Hp
theorem BC.of_owns {w:World} {B n:Nat} {v:Value} {f:Nat→Ent} (h:w.ownsRow B 42 2 v n (blobL n f)):∃ bo cap,v = .slice bo n cap∧n≤cap∧(bo=none→cap=0)∧BC w bo n f:=by
  rcases h.2 with ⟨rfl,rfl⟩ | ⟨g,cap,cur,rfl,h2,h3,h4,_⟩
  · exact ⟨none,0,rfl,Nat.le_refl _,fun _=>rfl,⟨fun h0=>absurd h0 (by omega)⟩⟩
  · refine ⟨_,cap,rfl,h4,(fun e=>nomatch e),⟨fun _=>⟨g,0,rfl,(h.lt g rfl).2,fun i hi => ?_⟩⟩⟩
    have q0:=h.cellAt (i*2) (by omega)
    have q1:=h.cellAt (i*2+1) (by omega)
    rw [show i*2=i*2+0 from rfl,blobL_get n f i 0 hi (by omega)] at q0
    rw [blobL_get n f i 1 hi (by omega)] at q1
    rw [Nat.zero_add]
    exact ⟨q0,q1⟩
def dotN (r x:Nat→Nat):Nat→Nat
  | 0=>0
  | j+1=>dotN r x j ^^^ mul (r j) (x j)
theorem dotN_lt {r x:Nat→Nat} (hr:∀ j,r j < 256):∀ n,dotN r x n < 256
  | 0=>by simp [dotN]
  | n+1=>Nat.xor_lt_two_pow (n:=8) (dotN_lt hr n) (mul_lt (hr n))
structure Cls (w:World) (k L bP:Nat) (a:Nat→Option Addr) (bl cp:Nat→Nat) (x:Nat→Nat→Nat):Prop where
  col:∀ j,j < k→w.cell? ⟨bP,j,none⟩=some (.slice (a j) L (cp j))
  at_:∀ j m,j < k→m < L→a j=some ⟨bl j,0,none⟩∧w.cell? ⟨bl j,m,none⟩=some (.int .u8 ((x j m:Nat):Int))
theorem below_cell {w w':World} {B:Nat} (h:Below B w w') (hB:w.heap.size≤B) {b o:Nat} {u:Value} (hc:w.cell? ⟨b,o,none⟩=some u):w'.cell? ⟨b,o,none⟩=some u:=
  (h.cell (p:=⟨b,o,none⟩) (Nat.lt_of_lt_of_le (cell_lt hc) hB)).trans hc
def numsV (n:Nat) (f:Nat→Nat):List Value:=(List.range n).map fun j=>.int .u8 ((f j:Nat):Int)
end Go.Proofs.YtkpcmfgeanlcnabGreatDoor
namespace Go.Proofs.YtkpcmfgeanlcnabGreatDoor
open Go.RowKit Go.Deep
end Go.Proofs.YtkpcmfgeanlcnabGreatDoor
namespace Go.Proofs.YtkpcmfgeanlcnabGreatDoor
open Go.RowKit Go.Deep Go.Hp
theorem DataAt.grow {w w':World} {e:Ent} {d:List UInt8} (h:DataAt w e d) (_hs:w.heap.size≤w'.heap.size) (up:∀ {b o:Nat} {u:Value},w.cell? ⟨b,o,none⟩=some u→w'.cell? ⟨b,o,none⟩=some u):DataAt w' e d:=by
  refine ⟨h.1,?_⟩
  rcases h.2 with h2 | ⟨ad,h2,h4⟩
  · exact .inl h2
  · refine .inr ⟨ad,h2,fun j u hj => ?_⟩
    have h5:=h4 j u hj
    have hspot:=World.cell?_spot h5
    generalize ad.add j=p at h5 hspot ⊢
    obtain ⟨b,o,sp⟩:=p
    dsimp only at hspot
    subst hspot
    exact up h5
theorem BC.up {w w':World} {bo:Option Addr} {n:Nat} {f:Nat→Ent} (h:BC w bo n f) (hs:w.heap.size≤w'.heap.size) (up:∀ {b o:Nat} {u:Value},w.cell? ⟨b,o,none⟩=some u→w'.cell? ⟨b,o,none⟩=some u):BC w' bo n f:=⟨fun hn=>by
  obtain ⟨b,o,h1,h2,h3⟩:=h.here hn
  exact ⟨b,o,h1,Nat.lt_of_lt_of_le h2 hs,fun i hi=>⟨up (h3 i hi).1,up (h3 i hi).2⟩⟩⟩
def xAt (l:List UInt8) (L j m:Nat):Nat:=bAt l (j*L+m)
theorem cell_of_block {w:World} {b m:Nat} {cur:Array Value} {t:TypeId} {u:Value} (h:w.heap[b]? = some (.cells cur t)) (hc:cur[m]? = some u):w.cell? ⟨b,m,none⟩=some u:=by
  simp [World.cell?,h,hc]
theorem lies_owns {w:World} {B t n:Nat} {v:Value} {xs:List Value} (h:w.ownsRow B t 1 v n xs):Lies w v xs:=by
  have hl:=h.1
  rcases h.2 with ⟨rfl,rfl⟩ | ⟨g,cap,cur,rfl,h2,h3,h4,_⟩
  · have:xs=[]:=List.length_eq_zero_iff.1 (by omega)
    subst this
    exact ⟨none,0,rfl,Nat.le_refl _,fun j u hj=>by simp at hj⟩
  · have e:n=xs.length:=by omega
    refine ⟨some ⟨g,0,none⟩,cap,by rw [e],by omega,fun j u hj=>⟨g,0,rfl,?_⟩⟩
    have hjl:j < n*1:=by
      have:=(List.getElem?_eq_some_iff.1 hj).1
      omega
    rw [Nat.zero_add,h.cellAt j hjl]
    exact hj
theorem tot_sizes (d:Ent→List UInt8) (f:Nat→Ent):∀ n,(∀ i,i < n→(d (f i)).length=(f i).l)→tot (sizesOf n f)=(joinD (fun j=>d (f j)) n).length
  | 0,_=>rfl
  | n+1,h=>by
    have ih:=tot_sizes d f n fun i hi=>h i (by omega)
    have e:sizesOf (n+1) f=sizesOf n f++[((f n).l:Int)]:=by simp [sizesOf,List.range_succ]
    rw [e]
    unfold tot at *
    simp only [List.map_append,List.sum_append,List.map_cons,List.map_nil,List.sum_cons,List.sum_nil,joinD,List.length_append,h n (by omega),ih]
    simp
theorem sizes_ok (n:Nat) (f:Nat→Ent):SizesOk (sizesOf n f):=fun i hi=>by
  rw [sizesOf_length] at hi
  simp [sizesOf,List.getD_eq_getElem?_getD,hi]
theorem names_get (n:Nat) (f:Nat→Ent) {i:Nat} (hi:i < n):(namesOf n f).getD i []=(f i).k:=by
  simp [namesOf,List.getD_eq_getElem?_getD,hi]
theorem notAfter_no {a b:List UInt8}:notAfter a b=false↔Hp.lt b a=true:=by
  have e:∀ x y:List UInt8,Op.bytesLess x y=Hp.lt x y:=fun _ _=>rfl
  unfold notAfter
  rw [e]
  rcases Hp.lt_tri a b with ⟨g,h,n⟩ | ⟨g,h,n⟩ | ⟨rfl,h,_⟩
  · rw [g,h];simp
  · rw [g,h];simp [n]
  · rw [h];simp
theorem names_strict {n:Nat} {g:Nat→Ent} (h:NamesOk (namesOf n g)):∀ i,i+1 < n→Hp.lt (g i).k (g (i+1)).k=true:=fun i hi=>by
  have hl:(namesOf n g).length=n:=by simp [namesOf]
  have:=(h (i+1) (by omega)).2 (by omega)
  rw [names_get n g hi,Nat.add_sub_cancel,names_get n g (by omega)] at this
  exact notAfter_no.1 this
theorem names_iff {n:Nat} {f g:Nat→Ent} (hR:Rearr n f g) (hS:Srt n g):NamesOk (namesOf n g)↔NamesFit n f:=by
  have hl:(namesOf n g).length=n:=by simp [namesOf]
  constructor
  · intro h
    refine ⟨fun i hi => ?_,apart_of hR (names_strict h)⟩
    obtain ⟨j,hj,e⟩:=hR.symm.from hi
    have:=(h j (by omega)).1
    rw [names_get n g hj,← e] at this
    exact this
  · rintro ⟨h1,h2⟩ i hi
    rw [hl] at hi
    rw [names_get n g hi]
    refine ⟨?_,fun h0 => ?_⟩
    · obtain ⟨j,hj,e⟩:=hR.from hi
      rw [e]
      exact h1 j hj
    · rw [names_get n g (by omega),notAfter_no]
      have hle:=hS (i - 1) (by omega)
      rw [show i - 1+1=i by omega] at hle
      refine Hp.lt_of_le_ne hle fun e => ?_
      obtain ⟨x,y,hx,hy,hne,e1,e2⟩:=hR.two (i:=i - 1) (j:=i) (by omega) hi (by omega)
      rw [e1,e2] at e
      rcases Nat.lt_or_ge x y with q | q
      · exact h2 x y q hy e
      · exact h2 y x (by omega) hx e.symm
theorem names_listed {n:Nat} {g:Nat→Ent} (h:NamesOk (namesOf n g)):ListOk (namesOf n g) (sizesOf n g):=⟨by simp [namesOf,sizesOf],h,sizes_ok n g⟩
theorem names_same {n:Nat} {g g':Nat→Ent} (h:∀ i,i < n→g' i=g i):namesOf n g' = namesOf n g:=List.map_congr_left fun i hi=>by rw [h i (List.mem_range.1 hi)]
theorem sizes_same {n:Nat} {g g':Nat→Ent} (h:∀ i,i < n→g' i=g i):sizesOf n g' = sizesOf n g:=List.map_congr_left fun i hi=>by rw [h i (List.mem_range.1 hi)]
theorem join_same {d:Ent→List UInt8} {g g':Nat→Ent}:∀ n,(∀ i,i < n→g' i=g i)→joinD (fun j=>d (g' j)) n=joinD (fun j=>d (g j)) n
  | 0,_=>rfl
  | n+1,h=>by
    show _++_=_++_
    rw [join_same n fun i hi=>h i (by omega)]
    congr 1
    show d (g' n)=d (g n)
    rw [h n (by omega)]
def colB (k L:Nat) (l:List UInt8) (t:Nat):List UInt8:=(List.range L).map fun m=>UInt8.ofNat (dotN (rowV k t) (fun j=>xAt l L j m) k)
theorem colB_length (k L:Nat) (l:List UInt8) (t:Nat):(colB k L l t).length=L:=by simp [colB]
theorem colB_V (k L:Nat) (l:List UInt8) (t:Nat):u8V (colB k L l t)=numsV L fun m=>dotN (rowV k t) (fun j=>xAt l L j m) k:=by
  unfold colB u8V numsV
  rw [List.map_map]
  refine List.map_congr_left fun m _ => ?_
  show Value.int .u8 (((UInt8.ofNat _).toNat:Nat):Int)=_
  rw [UInt8.toNat_ofNat',Nat.mod_eq_of_lt (dotN_lt (fun _=>rowV_lt) k)]
def shardB (k n c:Nat) (ns:List (List UInt8)) (zs:List Int) (i:Nat) (col:List UInt8):List UInt8:=
  sealB ([67,65,73,82,78,49]++([UInt8.ofNat k,UInt8.ofNat n,UInt8.ofNat i,0]++(leB 4 c++(leB 4 (manTo ns zs ns.length).length++(leB 4 col.length++[0,0])))))++sealB (manTo ns zs ns.length)++framesTo c col (nFr c col.length)++[68,79,78,69]
end Go.Proofs.YtkpcmfgeanlcnabGreatDoor

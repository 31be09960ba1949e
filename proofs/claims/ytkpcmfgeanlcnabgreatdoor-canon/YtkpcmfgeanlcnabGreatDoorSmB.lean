/-
  The document's shards of blobs: run alone.
-/
import Derived.Test.YtkpcmfgeanlcnabGreatDoorEnK
import Derived.Test.YtkpcmfgeanlcnabGreatDoorWrG
import Derived.Test.YtkpcmfgeanlcnabGreatDoorWrE
import Derived.Test.YtkpcmfgeanlcnabGreatDoorSame
import Derived.BigQuiet
import Derived.KernelRfl
import Derived.Test.YtkpcmfgeanlcnabGreatDoorHpA
namespace Go.Proofs.YtkpcmfgeanlcnabGreatDoor
open Go.RowKit Go.Deep Go.Hp
section
variable {k n c:Nat} {vN vS:Value} {L:Nat} {a:Nat→Option Addr} {cp:Nat→Nat}
end
theorem owns_form {w:World} {B t s n:Nat} {v:Value} {xs:List Value} (h:w.ownsRow B t s v n xs):∃ x c,v = .slice x n c:=by
  rcases h.2 with ⟨e,e2⟩ | ⟨g,c,cur,rfl,_⟩
  · exact ⟨none,0,by rw [e,e2]⟩
  · exact ⟨_,_,rfl⟩
end Go.Proofs.YtkpcmfgeanlcnabGreatDoor
namespace Go.Proofs.YtkpcmfgeanlcnabGreatDoor
open Go.RowKit Go.Deep
theorem cells_new4 (w:World) (a b c d:Value) (t:TypeId):∀ j u,[a,b,c,d][j]? = some u→(w.alloc (.cells #[a,b,c,d] t)).cell? ((⟨w.heap.size,0,none⟩:Addr).add j)=some u:=by
  intro j u hj
  rw [add_off,Nat.zero_add]
  exact (RowAt.made w [a,b,c,d] t).cell hj
theorem cells_new2 (w:World) (a b:Value) (t:TypeId):∀ j u,[a,b][j]? = some u→(w.alloc (.cells #[a,b] t)).cell? ((⟨w.heap.size,0,none⟩:Addr).add j)=some u:=by
  intro j u hj
  rw [add_off,Nat.zero_add]
  exact (RowAt.made w [a,b] t).cell hj
set_option maxHeartbeats 4000000 in
set_option maxRecDepth 100000 in
theorem appHead_any (B:Nat) (v0:Value) (k n i c:Nat) (hk:k≤255) (hn:n≤255) (hi:i≤255) (hc:c≤65536) (vN vS:Value) (bc:Option Addr) (len cap:Nat) (hlen:len≤1000000) (M:Int) (m:Nat) (hM:M=m) (hm:m≤1000000) (w:World) (h0:OwnB B w v0 []) (hB:B≤w.heap.size) (hT:Tab w) (hB0:2 < B) :
    Calls Tryz.prog 47 #[v0,.agg #[.int .i64 (k:Int),.int .i64 (n:Int),.int .i64 (i:Int),.int .i64 (c:Int),vN,vS,.slice bc len cap],.int .i64 M] w
      fun r w'=>Gives B w (sealB ([67,65,73,82,78,49]++([UInt8.ofNat k,UInt8.ofNat n,UInt8.ofNat i,0]++(leB 4 c++(leB 4 m++(leB 4 len++[0,0])))))) r w':=by
  subst hM
  obtain ⟨i0,hi0,hz0,hz1,hz2⟩:=info_parts infoB8
  have hr0:=RowAt.made w [.int .i64 (k:Int),.int .i64 (n:Int),.int .i64 (i:Int),.int .i64 (c:Int),vN,vS,.slice bc len cap] 36
  have hOX:=h0.alloc (.cells #[.int .i64 (k:Int),.int .i64 (n:Int),.int .i64 (i:Int),.int .i64 (c:Int),vN,vS,.slice bc len cap] 36)
  have hbX:=(Below.refl B w).alloc hB (.cells #[.int .i64 (k:Int),.int .i64 (n:Int),.int .i64 (i:Int),.int .i64 (c:Int),vN,vS,.slice bc len cap] 36)
  have hkX:=(KeepT.refl w).alloc (.cells #[.int .i64 (k:Int),.int .i64 (n:Int),.int .i64 (i:Int),.int .i64 (c:Int),vN,vS,.slice bc len cap] 36)
  obtain ⟨T,eT⟩:∃ T,sealB ([67,65,73,82,78,49]++([UInt8.ofNat k,UInt8.ofNat n,UInt8.ofNat i,0]++(leB 4 c++(leB 4 m++(leB 4 len++[0,0])))))=T:=⟨_,rfl⟩
  have ET:Hid _:=eT
  rw [eT]
  clear eT
  have E4:Hid (u8V [UInt8.ofNat k,UInt8.ofNat n,UInt8.ofNat i,0]=[.int .u8 (k:Int),.int .u8 (n:Int),.int .u8 (i:Int),.int .u8 0]):=by
    show _=_
    simp only [u8V,List.map_cons,List.map_nil,UInt8.toNat_ofNat']
    rw [Nat.mod_eq_of_lt (by omega),Nat.mod_eq_of_lt (by omega),Nat.mod_eq_of_lt (by omega)]
    rfl
  go_enter Tryz.func47,Tryz.ntmps47
  go_wp2_with (first
    | (at_builtin;refine Lib.wpList_append_own_string _ rfl _ _ 33 9 rfl B 5 i0 Tryz.underlying33 Tryz.underlying9 hi0 hz0 hz1 hz2 _ _ _ rfl hOX ⟨#[67,65,73,82,78,49]⟩ rfl (by decide) (by decide) (by simp;omega) ?_;intro v1 w1 hown1 hgrow1 _;have hO1:OwnB B w1 v1 ([]++[67,65,73,82,78,49]):=OwnB.more hown1 rfl;have hk1:=hOX.keeps hgrow1;have hb1:=hOX.grown hgrow1 (by simp;omega);have hr1:=hr0.keep hk1 (by decide);have c0:=hr1.cell (i:=0) rfl;have c1:=hr1.cell (i:=1) rfl;have c2:=hr1.cell (i:=2) rfl;clear hown1 hgrow1 hOX hr0)
    | (at_builtin;refine wpList_append_own _ rfl _ _ 33 rfl B 5 i0 (.int .u8 0) 1 1 Tryz.underlying33 hi0 hz0 hz1 hz2 rfl (by decide) _ _ _ rfl (hO1.alloc _) ⟨w1.heap.size,0,none⟩ 4 4 (u8V [UInt8.ofNat k,UInt8.ofNat n,UInt8.ofNat i,0]) rfl rfl (by rw [E4.out];exact cells_new4 _ _ _ _ _ _) (u8V_one _) (by decide) (by decide) (by have:=hb1.size;simp at this ⊢;omega) ?_;intro v2 w2 hown2 hgrow2 _;have hO2:OwnB B w2 v2 (([]++[67,65,73,82,78,49])++[UInt8.ofNat k,UInt8.ofNat n,UInt8.ofNat i,0]):=OwnB.more hown2 rfl;have hs1:B≤w1.heap.size:=by have:=hb1.size;(simp at this;omega)
       have hk2:KeepT w1 w2:=((KeepT.refl _).alloc _).trans ((hO1.alloc _).keeps hgrow2);have hb2:Below B w1 w2:=((Below.refl _ _).alloc hs1 _).trans ((hO1.alloc _).grown hgrow2 (by simp;omega));have hr2:=hr1.keep hk2 (by decide);have c3:=hr2.cell (i:=3) rfl;have hs2:=hb2.size;have K2:=appNum_any (c:Int) 4 c 4 rfl (by omega) rfl (by omega) B v2 (([]++[67,65,73,82,78,49])++[UInt8.ofNat k,UInt8.ofNat n,UInt8.ofNat i,0]) (by simp) w2 hO2 (by omega);clear hown2 hgrow2 c0 c1 c2 hO1 hO2 hr1)
    | (go_at_call 51;refine K2.mono ?_;clear K2;rintro r w3 ⟨v3,rfl,hO3,hb3,hk3⟩;have hs3:=hb3.size;have hr3:=hr2.keep hk3 (by decide);have K3:=appNum_any (m:Int) 4 m 4 rfl (by omega) rfl (by omega) B v3 ((([]++[67,65,73,82,78,49])++[UInt8.ofNat k,UInt8.ofNat n,UInt8.ofNat i,0])++leB 4 c) (by simp [leB_length]) w3 hO3 (by omega);clear hO3 hr2 c3)
    | (go_at_call 51;refine K3.mono ?_;clear K3;rintro r w4 ⟨v4,rfl,hO4,hb4,hk4⟩;have hs4:=hb4.size;have hr4:=hr3.keep hk4 (by decide);have c6:=hr4.cell (i:=6) rfl;have K4:=appNum_any (len:Int) 4 len 4 rfl (by omega) rfl (by omega) B v4 (((([]++[67,65,73,82,78,49])++[UInt8.ofNat k,UInt8.ofNat n,UInt8.ofNat i,0])++leB 4 c)++leB 4 m) (by simp [leB_length]) w4 hO4 (by omega);clear hO4 hr3 hr4)
    | (go_at_call 51;refine K4.mono ?_;clear K4;rintro r w5 ⟨v5,rfl,hO5,hb5,hk5⟩;have hs5:=hb5.size;clear c6)
    | (at_builtin;refine wpList_append_own _ rfl _ _ 33 rfl B 5 i0 (.int .u8 0) 1 1 Tryz.underlying33 hi0 hz0 hz1 hz2 rfl (by decide) _ _ _ rfl (hO5.alloc _) ⟨w5.heap.size,0,none⟩ 2 2 (u8V [0,0]) rfl rfl (cells_new2 _ _ _ _) (u8V_one _) (by simp [leB_length];decide) (by simp [leB_length]) (by simp;omega) ?_;intro v6 w6 hown6 hgrow6 _;have hO6:OwnB B w6 v6 (((((([]++[67,65,73,82,78,49])++[UInt8.ofNat k,UInt8.ofNat n,UInt8.ofNat i,0])++leB 4 c)++leB 4 m)++leB 4 len)++[0,0]):=OwnB.more hown6 rfl;have hk6:KeepT w5 w6:=((KeepT.refl _).alloc _).trans ((hO5.alloc _).keeps hgrow6);have hb6:Below B w5 w6:=((Below.refl _ _).alloc (by omega) _).trans ((hO5.alloc _).grown hgrow6 (by simp;omega));have hs6:=hb6.size
       have hb7:Below B w w6:=hbX.trans (hb1.trans (hb2.trans (hb3.trans (hb4.trans (hb5.trans hb6)))));have hk7:KeepT w w6:=hkX.trans (hk1.trans (hk2.trans (hk3.trans (hk4.trans (hk5.trans hk6)))));have K6:=appSum_self B v6 (((((([]++[67,65,73,82,78,49])++[UInt8.ofNat k,UInt8.ofNat n,UInt8.ofNat i,0])++leB 4 c)++leB 4 m)++leB 4 len)++[0,0]) (by simp [leB_length]) (by simp) w6 hO6 (by omega) (hT.below hb7 hB0);clear hown6 hgrow6 hO5 hO6 hb1 hb2 hb3 hb4 hb5 hb6 hbX hk1 hk2 hk3 hk4 hk5 hk6 hkX)
    | (go_at_call 49;refine K6.mono ?_;clear K6;rintro r w8 ⟨v8,rfl,hO8,hb8,hk8⟩))
  go_ret
  refine ⟨_,rfl,?_,hb7.trans hb8,hk7.trans hk8⟩
  rw [← ET.out]
  simpa [List.append_assoc] using hO8
theorem OwnB.base' {B B':Nat} {w:World} {v:Value} {l:List UInt8} (h:OwnB B w v l) (hB:B' ≤ B):OwnB B' w v l:=by
  refine ⟨h.1,?_⟩
  rcases h.2 with x | ⟨g,cap,cur,h1,h2,h3⟩
  · exact .inl x
  · exact .inr ⟨g,cap,cur,h1,Nat.le_trans hB h2,h3⟩
end Go.Proofs.YtkpcmfgeanlcnabGreatDoor
namespace Go.Proofs.YtkpcmfgeanlcnabGreatDoor
open Go.RowKit Go.Deep Go.Hp
structure Args (w:World) (bo:Option Addr) (m cap:Nat) (f:Nat→Ent) (d:Ent→List UInt8):Prop where
  hm:m≤1048576
  hcap:m≤cap
  hbo:bo=none→cap=0
  hk:∀ i,i < m→(f i).k.length≤9223372036854775807
  hl:∀ i,i < m→(f i).l≤9223372036854775807
  bc:BC w bo m f
  dat:∀ i,i < m→DataAt w (f i) (d (f i))
def cOf (c:Int):Nat:=1+pickN c 9
theorem cOf_le (c:Int):1≤cOf c∧cOf c≤9:=by have:=pickN_lt c (show 0 < 9 by omega);unfold cOf;omega
set_option maxHeartbeats 1000000 in
set_option maxRecDepth 100000 in
theorem params3_any (k n c:Int) (hk:In64 k) (hn:In64 n) (hc:In64 c) (w:World) :
    Calls Tryz.prog 7 #[.int .i64 k,.int .i64 n,.int .i64 c] w fun e w'=>e = .returned (prm (kOf k n) (nOf n) (cOf c))∧Below w.heap.size w w':=by
  have hN:=nOf_le n
  have hK:=kOf_le k n
  have hC:=cOf_le c
  have eN:(1:Int)+((pickN n 12:Nat):Int)=((nOf n:Nat):Int):=by simp [nOf]
  have eK:(1:Int)+((pickN k (nOf n):Nat):Int)=((kOf k n:Nat):Int):=by simp [kOf]
  have eC:(1:Int)+((pickN c 9:Nat):Int)=((cOf c:Nat):Int):=by simp [cOf]
  have pN:=pickN_lt n (show 0 < 12 by omega)
  have pK:=pickN_lt k (show 0 < nOf n by omega)
  have pC:=pickN_lt c (show 0 < 9 by omega)
  go_enter Tryz.func7,Tryz.ntmps7
  have c1:=pick_any n 12 12 rfl hn.1 hn.2 (by omega) (by omega)
  have c2:=pick_any k (nOf n) (nOf n:Int) rfl hk.1 hk.2 (by omega) (by omega)
  have c3:=pick_any c 9 9 rfl hc.1 hc.2 (by omega) (by omega)
  generalize hpk:pickN k (nOf n)=pk at *
  generalize hpn:pickN n 12=pn at *
  generalize hpc:pickN c 9=pc at *
  generalize hkk:kOf k n=kk at *
  generalize hnn:nOf n=nn at *
  generalize hcc:cOf c=cc at *
  clear hpk hpn hkk hnn hpc hcc
  go_wp2_with (first
    | (go_at_call 10;(with_reducible refine (c1 _).mono ?_);rintro e w' ⟨rfl,hw'⟩;obtain rfl:=hw'.symm)
    | (go_at_call 10;(with_reducible refine (c2 _).mono ?_);rintro e w' ⟨rfl,hw'⟩;obtain rfl:=hw'.symm)
    | (go_at_call 10;(with_reducible refine (c3 _).mono ?_);rintro e w' ⟨rfl,hw'⟩;obtain rfl:=hw'.symm))
  have hF:((w.alloc (Obj.cells #[.int .i64 kk,.int .i64 nn,.int .i64 cc] 24)).alloc (Obj.cells #[.int .i64 kk,.int .i64 nn,.int .i64 cc] 24)).heap[w.heap.size]? = some (.cells #[.int .i64 kk,.int .i64 nn,.int .i64 cc] 24 (0,0)):=by
    show ((w.heap.push _).push _)[w.heap.size]? = _
    rw [Array.getElem?_push,if_neg (by rw [Array.size_push];omega),Array.getElem?_push,if_pos rfl]
  refine bodyPost_ret (results_cell_row (p:=6) rfl _ _ w.heap.size 24 _ (0,0) _ (by rfl) hF Tryz.underlying24 rfl (by kernel_rfl)) rfl ?_
  exact ⟨rfl,((Below.refl _ _).alloc (Nat.le_refl _) _).alloc (by simp) _⟩
def nmOf (i:Nat):List UInt8:=[98,UInt8.ofNat (97+i)]
set_option maxHeartbeats 1000000 in
set_option maxRecDepth 100000 in
theorem name_any (i:Nat) (hi:i < 26) (w:World) :
    Calls Tryz.prog 17 #[.int .i64 (i:Int)] w fun e w'=>e = .returned (strV (nmOf i))∧Below w.heap.size w w':=by
  go_enter Tryz.func17,Tryz.ntmps17
  have em:(i:Int) % 26=(i:Int):=by omega
  have kc:(convert 33 9 (.slice (some ⟨w.heap.size,0,none⟩) 2 2)).run Tryz.prog (w.alloc (.cells #[.int .u8 98,.int .u8 (97+(i:Int))] 5)) = .ok (.string ⟨(nmOf i).toArray⟩) (w.alloc (.cells #[.int .u8 98,.int .u8 (97+(i:Int))] 5)):=by
    refine Holds8.string (l:=nmOf i) (.inr ⟨_,2,rfl,fun j hj => ?_⟩)
    have hn:=heap_alloc_new w (.cells #[.int .u8 98,.int .u8 (97+(i:Int))] 5)
    have e1:((UInt8.ofNat (97+i)).toNat:Int)=97+(i:Int):=by
      rw [UInt8.toNat_ofNat',Nat.mod_eq_of_lt (by omega)]
      omega
    have hj2:j < 2:=hj
    match j,hj2 with
    | 0,_=>
      show World.cell? _ ⟨w.heap.size,0,none⟩=_
      simp only [World.cell?,hn]
      rfl
    | 1,_=>
      show World.cell? _ ⟨w.heap.size,1,none⟩=some (.int .u8 ((UInt8.ofNat (97+i)).toNat:Int))
      rw [e1]
      simp only [World.cell?,hn]
      rfl
  go_wp2
  go_ret
  exact ⟨rfl,(Below.refl _ _).alloc (Nat.le_refl _) _⟩
theorem nmOf_inj {i j:Nat} (hi:i < 26) (hj:j < 26) (h:nmOf i=nmOf j):i=j:=by
  have e:UInt8.ofNat (97+i)=UInt8.ofNat (97+j):=by
    unfold nmOf at h
    simpa using h
  have:=congrArg UInt8.toNat e
  rw [UInt8.toNat_ofNat',UInt8.toNat_ofNat',Nat.mod_eq_of_lt (by omega),Nat.mod_eq_of_lt (by omega)] at this
  omega
theorem params_ok (k n c:Int):ParamsOk ((kOf k n:Nat):Int) ((nOf n:Nat):Int) ((cOf c:Nat):Int):=by
  have:=nOf_le n
  have:=kOf_le k n
  have:=cOf_le c
  refine ⟨?_,by omega,by omega⟩
  unfold PartsOk
  omega
theorem names_fit {m:Nat} {f:Nat→Ent} {xs:Nat→Nat} (hx:∀ i,i < m→xs i < 26) (hd:∀ i j,i < j→j < m→xs i≠xs j) (hk:∀ i,i < m→(f i).k=nmOf (xs i)):NamesFit m f:=
  ⟨fun i hi=>by rw [hk i hi];exact ⟨by simp [nmOf],by simp [nmOf]⟩,fun i j h1 h2 e=>hd i j h1 h2 (nmOf_inj (hx i (by omega)) (hx j h2) (by rw [← hk i (by omega),← hk j h2];exact e))⟩
end Go.Proofs.YtkpcmfgeanlcnabGreatDoor

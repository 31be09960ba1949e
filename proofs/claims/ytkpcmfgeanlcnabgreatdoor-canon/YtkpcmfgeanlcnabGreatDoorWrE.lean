/-
  What the program's Check of a shard answers.
-/
import Derived.Test.YtkpcmfgeanlcnabGreatDoorWrC
import Derived.BigQuiet
namespace Go.Proofs.YtkpcmfgeanlcnabGreatDoor
open Go.RowKit Go.Deep
def PartsOk (k n:Int):Prop:=1≤k∧k≤n∧n≤128
set_option maxHeartbeats 400000 in
set_option maxRecDepth 100000 in
theorem partsFitP_any (k n:Int) (w:World) :
    Calls Tryz.prog 29 #[.int .i64 k,.int .i64 n] w fun e w'=>w' = w∧Tells e (PartsOk k n):=by
  by_cases h1:1≤k
  · by_cases h2:k≤n
    · by_cases h3:n≤128
      · have HF:Hid (PartsOk k n):=⟨h1,h2,h3⟩
        go_enter Tryz.func29,Tryz.ntmps29
        go_wp2
        go_ret
        exact ⟨rfl,tells_yes rfl HF.out⟩
      · have HF:Hid (¬ PartsOk k n):=fun h=>h3 h.2.2
        go_enter Tryz.func29,Tryz.ntmps29
        go_wp2
        go_ret
        exact ⟨rfl,tells_no rfl HF.out⟩
    · have HF:Hid (¬ PartsOk k n):=fun h=>h2 h.2.1
      go_enter Tryz.func29,Tryz.ntmps29
      go_wp2
      go_ret
      exact ⟨rfl,tells_no rfl HF.out⟩
  · have HF:Hid (¬ PartsOk k n):=fun h=>h1 h.1
    go_enter Tryz.func29,Tryz.ntmps29
    go_wp2
    go_ret
    exact ⟨rfl,tells_no rfl HF.out⟩
def ParamsOk (k n c:Int):Prop:=PartsOk k n∧1≤c∧c≤65536
set_option maxHeartbeats 400000 in
set_option maxRecDepth 100000 in
theorem paramsFit_any (k n c:Int) (w:World) :
    Calls Tryz.prog 18 #[.agg #[.int .i64 k,.int .i64 n,.int .i64 c]] w fun e w'=>Below w.heap.size w w' ∧ Tells e (ParamsOk k n c):=by
  by_cases h1:PartsOk k n
  · have H1:Hid (PartsOk k n):=h1
    clear h1
    by_cases h2:1≤c
    · by_cases h3:c≤65536
      · go_enter Tryz.func18,Tryz.ntmps18
        go_wp2_with (first | (go_at_call 29;refine (partsFitP_any _ _ _).mono ?_;rintro r w' ⟨hw',hb⟩;obtain rfl:=hb.yes H1.out;obtain rfl:=hw'.symm))
        go_ret
        exact ⟨by first | exact Below.refl _ _ | exact (Below.refl _ _).alloc (Nat.le_refl _) _,tells_yes rfl ⟨H1.out,h2,h3⟩⟩
      · go_enter Tryz.func18,Tryz.ntmps18
        go_wp2_with (first | (go_at_call 29;refine (partsFitP_any _ _ _).mono ?_;rintro r w' ⟨hw',hb⟩;obtain rfl:=hb.yes H1.out;obtain rfl:=hw'.symm))
        go_ret
        exact ⟨by first | exact Below.refl _ _ | exact (Below.refl _ _).alloc (Nat.le_refl _) _,tells_no (ret_bool' (by simp;omega)) fun h=>by have:=h.2.2;omega⟩
    · go_enter Tryz.func18,Tryz.ntmps18
      go_wp2_with (first | (go_at_call 29;refine (partsFitP_any _ _ _).mono ?_;rintro r w' ⟨hw',hb⟩;obtain rfl:=hb.yes H1.out;obtain rfl:=hw'.symm))
      go_ret
      exact ⟨by first | exact Below.refl _ _ | exact (Below.refl _ _).alloc (Nat.le_refl _) _,tells_no rfl fun h=>by have:=h.2.1;omega⟩
  · have H1:Hid (¬ PartsOk k n):=h1
    clear h1
    go_enter Tryz.func18,Tryz.ntmps18
    go_wp2_with (first | (go_at_call 29;refine (partsFitP_any _ _ _).mono ?_;rintro r w' ⟨hw',hb⟩;obtain rfl:=hb.no H1.out;obtain rfl:=hw'.symm))
    go_ret
    exact ⟨by first | exact Below.refl _ _ | exact (Below.refl _ _).alloc (Nat.le_refl _) _,tells_no rfl fun h=>H1.out h.1⟩
def usedI (k i t:Nat):Int:=if k≤i then (lenC k t:Int) else max 0 (min (lenC k t:Int) ((t:Int) - ((i*lenC k t:Nat):Int)))
theorem lenC_le {k:Nat} (hk:1≤k) (t:Nat):lenC k t≤t:=by
  unfold lenC
  rcases Nat.eq_zero_or_pos t with rfl | h
  · rw [Nat.div_eq_of_lt (by omega)];omega
  · have h1:(t+k - 1) / k < t+1:=by
      rw [Nat.div_lt_iff_lt_mul (by omega)]
      have:t*1≤t*k:=Nat.mul_le_mul_left t hk
      rw [Nat.add_mul]
      omega
    omega
set_option maxHeartbeats 1000000 in
set_option maxRecDepth 100000 in
theorem used_any (K I T:Int) (k i t:Nat) (hK:K=k) (hI:I=i) (hT:T=t) (hk:1≤k) (hk2:k≤255) (hi:i≤255) (ht:t≤65536) (w:World) :
    Calls Tryz.prog 46 #[.int .i64 K,.int .i64 I,.int .i64 T] w fun r w'=>r = .returned (.int .i64 (usedI k i t))∧w' = w:=by
  have K1:=clength_any K T k t hK hT hk hk2 ht w
  subst hK hI hT
  have hL:=lenC_le hk t
  unfold usedI
  obtain ⟨L,eL⟩:∃ L,lenC k t=L:=⟨_,rfl⟩
  rw [eL] at K1 hL ⊢
  obtain ⟨p,ep⟩:∃ p,i*L=p:=⟨_,rfl⟩
  have hp:p≤255*65536:=by rw [← ep];exact Nat.mul_le_mul hi (by omega)
  have hp2:(i:Int)*(L:Int)=(p:Int):=by rw [← ep];simp
  rw [ep]
  clear eL ep hk
  by_cases hik:k≤i
  · rw [if_pos hik]
    go_enter Tryz.func46,Tryz.ntmps46
    go_wp2_with (first | (go_at_call 44;refine K1.mono ?_;rintro r w' ⟨rfl,hw'⟩;obtain rfl:=hw'.symm))
    go_ret
    exact ⟨rfl,rfl⟩
  · rw [if_neg hik]
    have W1:wrap64 (p:Int)=(p:Int):=in64 _ (by omega)
    have W2:wrap64 ((t:Int) - (p:Int))=(t:Int) - (p:Int):=in64 _ (by omega)
    rcases Int.lt_or_le ((t:Int) - (p:Int)) (L:Int) with c1 | c1
    · rcases Int.lt_or_le 0 ((t:Int) - (p:Int)) with c2 | c2
      · have HG:Hid (max 0 (min (L:Int) ((t:Int) - (p:Int)))=(t:Int) - (p:Int)):=by show _=_;omega
        go_enter Tryz.func46,Tryz.ntmps46
        go_wp2_with (first | (go_at_call 44;refine K1.mono ?_;rintro r w' ⟨rfl,hw'⟩;obtain rfl:=hw'.symm))
        all_goals go_ret
        all_goals exact ⟨ret_i64 (by rw [HG.out]),rfl⟩
      · have HG:Hid (max 0 (min (L:Int) ((t:Int) - (p:Int)))=0):=by show _=_;omega
        go_enter Tryz.func46,Tryz.ntmps46
        go_wp2_with (first | (go_at_call 44;refine K1.mono ?_;rintro r w' ⟨rfl,hw'⟩;obtain rfl:=hw'.symm))
        all_goals go_ret
        all_goals exact ⟨ret_i64 (by rw [HG.out]),rfl⟩
    · rcases Nat.eq_zero_or_pos L with c2 | c2
      · have HG:Hid (max 0 (min (L:Int) ((t:Int) - (p:Int)))=0):=by show _=_;omega
        subst c2
        go_enter Tryz.func46,Tryz.ntmps46
        go_wp2_with (first | (go_at_call 44;refine K1.mono ?_;rintro r w' ⟨rfl,hw'⟩;obtain rfl:=hw'.symm))
        all_goals go_ret
        all_goals exact ⟨ret_i64 (by rw [HG.out];try rfl),rfl⟩
      · have HG:Hid (max 0 (min (L:Int) ((t:Int) - (p:Int)))=L):=by show _=_;omega
        go_enter Tryz.func46,Tryz.ntmps46
        go_wp2_with (first | (go_at_call 44;refine K1.mono ?_;rintro r w' ⟨rfl,hw'⟩;obtain rfl:=hw'.symm))
        all_goals go_ret
        all_goals exact ⟨ret_i64 (by rw [HG.out]),rfl⟩
def shV (s:Sh) (vN vS vC:Value):Value:=.agg #[.int .i64 s.K,.int .i64 s.N,.int .i64 s.I,.int .i64 s.C,vN,vS,vC]
structure Sh.In (s:Sh) (w:World) (vN vS vC:Value):Prop where
  names:Lies w vN (nameV s.ns)
  sizes:Lies w vS (intV s.zs)
  col:Lies w vC (u8V s.col)
  nl:s.ns.length≤9223372036854775807
  zl:s.zs.length≤9223372036854775807
  cl:s.col.length≤9223372036854775807
  ml:∀ n∈s.ns,n.length≤9223372036854775807
theorem Sh.fine_iff (s:Sh):s.Fine↔ParamsOk s.K s.N s.C∧0≤s.I∧s.I < s.N:=
  ⟨fun h=>⟨⟨⟨h.k1,h.kn,h.n1⟩,h.c1,h.c2⟩,h.i0,h.iN⟩,fun h=>⟨h.1.1.1,h.1.1.2.1,h.1.1.2.2,h.2.1,h.2.2,h.1.2.1,h.1.2.2⟩⟩
theorem Sh.listed_iff (s:Sh):s.Listed↔ListOk s.ns s.zs:=⟨fun h=>⟨h.len,h.names,h.sizes⟩,fun h=>⟨h.1,h.2.1,h.2.2⟩⟩
theorem Sh.few_iff (s:Sh):s.Few↔FewOk s.ns s.zs:=⟨fun h=>⟨h.blobs,h.bytes,h.man⟩,fun h=>⟨h.1,h.2.1,h.2.2⟩⟩
theorem box7 {w w1:World} {a b c d e f g:Value} {t:TypeId} (hB:Below (w.alloc (.cells #[a,b,c,d,e,f,g] t)).heap.size (w.alloc (.cells #[a,b,c,d,e,f,g] t)) w1) :
    (w1.cell? ⟨w.heap.size,0,none⟩=some a∧w1.cell? ⟨w.heap.size,1,none⟩=some b∧w1.cell? ⟨w.heap.size,2,none⟩=some c∧w1.cell? ⟨w.heap.size,3,none⟩=some d∧w1.cell? ⟨w.heap.size,4,none⟩=some e∧w1.cell? ⟨w.heap.size,5,none⟩=some f∧w1.cell? ⟨w.heap.size,6,none⟩=some g)∧Below w.heap.size w w1:=by
  have h0:RowAt (w.alloc (.cells #[a,b,c,d,e,f,g] t)) w.heap.size [a,b,c,d,e,f,g] t:=RowAt.made w [a,b,c,d,e,f,g] t
  have h1:RowAt w1 w.heap.size [a,b,c,d,e,f,g] t:=h0.later (S:=fun _=>False) (.of_below hB) (by simp) id
  refine ⟨⟨h1.cell rfl,h1.cell rfl,h1.cell rfl,h1.cell rfl,h1.cell rfl,h1.cell rfl,h1.cell rfl⟩,?_⟩
  exact ((Below.refl w.heap.size w).alloc (Nat.le_refl _) _).trans (hB.mono (by simp))
set_option maxHeartbeats 4000000 in
set_option maxRecDepth 100000 in
theorem check_params (s:Sh) (vN vS vC:Value) (w:World) (hF:¬ s.Fine) :
    Calls Tryz.prog 24 #[shV s vN vS vC] w fun r w'=>r = .returned (.int .i64 1)∧Below w.heap.size w w':=by
  unfold shV
  rw [Sh.fine_iff] at hF
  obtain ⟨K,N,I,C,ns,zs,col⟩:=s
  simp only at hF ⊢
  by_cases h1:ParamsOk K N C
  · have H1:Hid (ParamsOk K N C):=h1
    by_cases h2:0≤I
    · have h3:N≤I:=by
        rcases Int.lt_or_le I N with x | x
        · exact absurd ⟨h1,h2,x⟩ hF
        · exact x
      clear h1 hF
      go_enter Tryz.func24,Tryz.ntmps24
      go_wp2_with (first | (go_at_call 18;refine (paramsFit_any _ _ _ _).mono ?_;rintro r w1 ⟨hB,hb⟩;obtain rfl:=hb.yes H1.out;obtain ⟨⟨c0,c1,c2,c3,c4,c5,c6⟩,hB1⟩:=box7 hB;clear hB hb))
      go_ret
      exact ⟨rfl,hB1⟩
    · clear h1 hF
      go_enter Tryz.func24,Tryz.ntmps24
      go_wp2_with (first | (go_at_call 18;refine (paramsFit_any _ _ _ _).mono ?_;rintro r w1 ⟨hB,hb⟩;obtain rfl:=hb.yes H1.out;obtain ⟨⟨c0,c1,c2,c3,c4,c5,c6⟩,hB1⟩:=box7 hB;clear hB hb))
      go_ret
      exact ⟨rfl,hB1⟩
  · have H1:Hid (¬ ParamsOk K N C):=h1
    clear h1 hF
    go_enter Tryz.func24,Tryz.ntmps24
    go_wp2_with (first | (go_at_call 18;refine (paramsFit_any _ _ _ _).mono ?_;rintro r w1 ⟨hB,hb⟩;obtain rfl:=hb.no H1.out;obtain ⟨⟨c0,c1,c2,c3,c4,c5,c6⟩,hB1⟩:=box7 hB;clear hB hb))
    go_ret
    exact ⟨rfl,hB1⟩
def firstI (l:List UInt8) (F:Int):Int:=match (List.range l.length).find? (fun m:Nat=>decide (F≤(m:Int)∧bAt l m≠0)) with
  | some m=>(m:Int)
  | none => -1
theorem FirstNot.is {l:List UInt8} {F:Int} {r:Ending} (h:FirstNot l F r):r = .returned (.int .i64 (firstI l F)):=by
  obtain ⟨x,rfl,hx⟩:=h
  rcases hx with ⟨rfl,hz⟩ | ⟨m,rfl,h1,h2,h3,h4⟩
  · have:(List.range l.length).find? (fun m:Nat=>decide (F≤(m:Int)∧bAt l m≠0))=none:=by
      rw [List.find?_eq_none]
      intro m hm
      have:=hz m
      simp only [List.mem_range] at hm
      simp only [decide_eq_true_eq]
      rintro ⟨g1,g2⟩
      exact g2 (this g1 hm)
    unfold firstI
    rw [this]
  · have:(List.range l.length).find? (fun m:Nat=>decide (F≤(m:Int)∧bAt l m≠0))=some m:=by
      rw [List.find?_range_eq_some]
      refine ⟨by simp only [decide_eq_true_eq];exact ⟨h1,h3⟩,by simpa using h2,fun j hj => ?_⟩
      have:=h4 j hj
      simp only [Bool.not_eq_true',decide_eq_false_iff_not]
      rintro ⟨g1,g2⟩
      exact g2 (this g1)
    unfold firstI
    rw [this]
theorem firstI_iff (l:List UInt8) (F:Int):0≤firstI l F↔∃ m:Nat,m < l.length∧F≤(m:Int)∧bAt l m≠0:=by
  unfold firstI
  cases hf:(List.range l.length).find? (fun m:Nat=>decide (F≤(m:Int)∧bAt l m≠0)) with
  | some m=>
    rw [List.find?_range_eq_some] at hf
    have h1:=hf.1
    simp only [decide_eq_true_eq] at h1
    refine ⟨fun _=>⟨m,by simpa using hf.2.1,h1.1,h1.2⟩,fun _=>by simp⟩
  | none=>
    rw [List.find?_eq_none] at hf
    refine ⟨fun h=>by simp at h,fun ⟨m,h1,h2,h3⟩ => ?_⟩
    have:=hf m (by simpa using h1)
    simp only [decide_eq_true_eq] at this
    exact absurd ⟨h2,h3⟩ this
theorem firstI_range (l:List UInt8) (F:Int) : -1≤firstI l F∧firstI l F < (l.length:Int)+1:=by
  unfold firstI
  cases hf:(List.range l.length).find? (fun m:Nat=>decide (F≤(m:Int)∧bAt l m≠0)) with
  | some m=>
    rw [List.find?_range_eq_some] at hf
    have:m < l.length:=by simpa using hf.2.1
    simp only
    omega
  | none=>simp only;omega
theorem firstI_any (F:Int) (hF : -1000000000000≤F∧F≤1000000000000) (v:Value) (l:List UInt8) (hl:l.length≤9223372036854775807) (w:World) (h:Lies w v (u8V l)) :
    Calls Tryz.prog 45 #[v,.int .i64 F] w fun r w'=>r = .returned (.int .i64 (firstI l F))∧w' = w:=
  (firstNot_any F hF v l hl w h).mono fun _ _ hx=>⟨hx.2.is,hx.1⟩
theorem bad_iff {k i t:Nat} {col:List UInt8} (hL:col.length=lenC k t):0≤firstI col (usedI k i t)↔i < k∧∃ m,m < col.length∧t≤i*lenC k t+m∧bAt col m≠0:=by
  rw [firstI_iff]
  unfold usedI
  constructor
  · rintro ⟨m,h1,h2,h3⟩
    by_cases hk:k≤i
    · rw [if_pos hk] at h2;omega
    · rw [if_neg hk] at h2
      exact ⟨by omega,m,h1,by omega,h3⟩
  · rintro ⟨hk,m,h1,h2,h3⟩
    rw [if_neg (by omega)]
    exact ⟨m,h1,by omega,h3⟩
theorem usedI_range (k i t:Nat) (hk:1≤k) (ht:t≤65536) : -1000000000000≤usedI k i t∧usedI k i t≤1000000000000:=by
  have h1:=lenC_le hk t
  unfold usedI
  split <;> omega
theorem Lies.drewN {w:World} {v:Value} {xs:List Value} (h:Lies w v xs) (n:Nat):Lies (w.drewN n) v xs:=by
  obtain ⟨ba,cap,rfl,hle,hc⟩:=h
  exact ⟨ba,cap,rfl,hle,fun j u hj=>by
    obtain ⟨b,off,e,hh⟩:=hc j u hj
    exact ⟨b,off,e,by rw [← hh];simp⟩⟩
theorem below_drewN {B:Nat} {a w:World} (h:Below B a w) (n:Nat):Below B a (w.drewN n):=h.trans ⟨rfl,rfl,rfl,Nat.le_refl _,fun _ _=>rfl⟩
set_option maxHeartbeats 1000000 in
set_option maxRecDepth 100000 in
theorem totalP_any (v:Value) (zs:List Int) (hl:zs.length≤9223372036854775807) (hzo:SizesOk zs) (ht:tot zs≤65536) (w:World) (h:Lies w v (intV zs)) :
    Calls Tryz.prog 43 #[v] w fun r w'=>r = .returned (.int .i64 (tot zs:Nat))∧w' = w:=by
  obtain ⟨ba,cap,rfl,hcap,hcz⟩:=h
  rw [intV_length] at hcap ⊢
  obtain ⟨t,et⟩:∃ t,tot zs=t:=⟨_,rfl⟩
  have hto:∀ c,c≤zs.length→totTo zs c≤t:=fun c hc=>et ▸ totTo_le zs hc
  have hall:totTo zs zs.length=t:=by rw [totTo_all,et]
  rw [et] at ht ⊢
  clear et
  go_enter Tryz.func43,Tryz.ntmps43
  go_wp2
  go_loop [3,5,8] (fun vt _ vi=>∃ c:Nat,c≤zs.length∧vi = .int .i64 (c:Int)∧vt = .int .i64 (totTo zs c:Nat)) (fun _ _ i=>zs.length - (intOf i).toNat)
  case atStart=>exact ⟨0,by omega,rfl,rfl⟩
  case round=>
    obtain ⟨c,hcl2,rfl,rfl⟩:=hrel
    by_cases hlt:c < zs.length
    · obtain ⟨b,off,rfl,hcell⟩:=hcz c _ (intV_at hlt)
      have hzc:=hzo c hlt
      obtain ⟨z,e2⟩:∃ z:Nat,zs.getD c 0=(z:Int):=⟨(zs.getD c 0).toNat,by omega⟩
      have HS:Hid (totTo zs (c+1)=totTo zs c+z):=by
        show _=_
        rw [totTo_succ,e2];simp
      have hb2:totTo zs c+z≤65536:=by rw [← HS.out];exact Nat.le_trans (hto (c+1) (by omega)) ht
      rw [e2] at hcell
      obtain ⟨y,ey⟩:∃ y,totTo zs c=y:=⟨_,rfl⟩
      rw [ey] at HS hb2 ⊢
      clear e2 hzc hcz hzo ey hall hto
      go_wp2
      go_round
      case rel=>exact ⟨c+1,by omega,by go_num,by rw [HS.out];go_num⟩
      case measure=>simp [intOf];omega
    · obtain rfl:c=zs.length:=by omega
      rw [hall]
      clear hcz hzo hall hto
      go_wp2
      go_ret
      exact ⟨rfl,rfl⟩
section
variable (K N I C:Int) (ns:List (List UInt8)) (zs:List Int) (col:List UInt8) (vN vS vC:Value) (w:World) (h:(Sh.mk K N I C ns zs col).In w vN vS vC) (H1:Hid (ParamsOk K N C)) (i0:0≤I) (iN:I < N)
set_option maxHeartbeats 4000000 in
set_option maxRecDepth 100000 in
include h H1 i0 iN in
theorem check_list (H2:Hid (¬ ListOk ns zs)) :
    Calls Tryz.prog 24 #[.agg #[.int .i64 K,.int .i64 N,.int .i64 I,.int .i64 C,vN,vS,vC]] w fun r w'=>r = .returned (.int .i64 2)∧Below w.heap.size w w':=by
  have hnl:ns.length≤9223372036854775807:=h.nl
  have hml:∀ n∈ns,n.length≤9223372036854775807:=h.ml
  go_enter Tryz.func24,Tryz.ntmps24
  go_wp2_with (first | (go_at_call 18;refine (paramsFit_any _ _ _ _).mono ?_;rintro r w1 ⟨hB,hb⟩;obtain rfl:=hb.yes H1.out;obtain ⟨⟨c0,c1,c2,c3,c4,c5,c6⟩,hB1⟩:=box7 hB;clear hB hb;have g1:=h.names.below hB1;have g2:=h.sizes.below hB1;have g3:=h.col.below hB1) | (go_at_call 42;refine (listFits_any _ _ ns zs hnl hml _ (by exact g1) (by exact g2)).mono ?_;rintro r w' ⟨hw',hb⟩;obtain rfl:=hb.no H2.out;obtain rfl:=hw'.symm;clear hb))
  go_ret
  exact ⟨rfl,hB1⟩
set_option maxHeartbeats 4000000 in
set_option maxRecDepth 100000 in
include h H1 i0 iN in
theorem check_many (H2:Hid (ListOk ns zs)) (H3:Hid (¬ FewOk ns zs)) :
    Calls Tryz.prog 24 #[.agg #[.int .i64 K,.int .i64 N,.int .i64 I,.int .i64 C,vN,vS,vC]] w fun r w'=>r = .returned (.int .i64 3)∧Below w.heap.size w w':=by
  have hnl:ns.length≤9223372036854775807:=h.nl
  have hzl:zs.length≤9223372036854775807:=h.zl
  have hml:∀ n∈ns,n.length≤9223372036854775807:=h.ml
  go_enter Tryz.func24,Tryz.ntmps24
  go_wp2_with (first | (go_at_call 18;refine (paramsFit_any _ _ _ _).mono ?_;rintro r w1 ⟨hB,hb⟩;obtain rfl:=hb.yes H1.out;obtain ⟨⟨c0,c1,c2,c3,c4,c5,c6⟩,hB1⟩:=box7 hB;clear hB hb;have g1:=h.names.below hB1;have g2:=h.sizes.below hB1;have g3:=h.col.below hB1) | (go_at_call 42;refine (listFits_any _ _ ns zs hnl hml _ (by exact g1) (by exact g2)).mono ?_;rintro r w' ⟨hw',hb⟩;obtain rfl:=hb.yes H2.out;obtain rfl:=hw'.symm;clear hb) | (go_at_call 35;refine (contentFits_any _ _ ns zs hnl hzl H2.out _ (by exact g1) (by exact g2)).mono ?_;rintro r w' ⟨hw',hb⟩;obtain rfl:=hb.no H3.out;obtain rfl:=hw'.symm;clear hb))
  go_ret
  exact ⟨rfl,hB1⟩
set_option maxHeartbeats 8000000 in
set_option maxRecDepth 100000 in
include h H1 i0 iN in
theorem check_rest (H2:Hid (ListOk ns zs)) (H3:Hid (FewOk ns zs)) (k i:Nat) (hk:K=k) (hi:I=i) (E:Nat) (HE:Hid (E=if ¬ col.length=lenC k (tot zs) then 15 else if 0≤firstI col (usedI k i (tot zs)) then 8 else 0)) :
    Calls Tryz.prog 24 #[.agg #[.int .i64 K,.int .i64 N,.int .i64 I,.int .i64 C,vN,vS,vC]] w fun r w'=>r = .returned (.int .i64 E)∧Below w.heap.size w w':=by
  subst hk hi
  have hk1:1≤k:=by have:=H1.out.1.1;omega
  have hk2:k≤128:=by have h1:=H1.out.1.2.1;have h2:=H1.out.1.2.2;omega
  have hi2:i≤128:=by have h2:=H1.out.1.2.2;omega
  have hnl:ns.length≤9223372036854775807:=h.nl
  have hzl:zs.length≤9223372036854775807:=h.zl
  have hml:∀ n∈ns,n.length≤9223372036854775807:=h.ml
  have hcl:col.length≤9223372036854775807:=h.cl
  have ht:tot zs≤65536:=H3.out.2.1
  have hzo:SizesOk zs:=H2.out.2.2
  obtain ⟨bz,capz,rfl,hcapz,hcz⟩:=id h.sizes
  obtain ⟨bc,capc,rfl,hcapc,hcc⟩:=id h.col
  simp only [intV_length,u8V_length] at h hcapz hcapc ⊢
  clear hcz hcc
  go_enter Tryz.func24,Tryz.ntmps24
  go_wp2_with (first | (go_at_call 18;refine (paramsFit_any _ _ _ _).mono ?_;rintro r w1 ⟨hB,hb⟩;obtain rfl:=hb.yes H1.out;obtain ⟨⟨c0,c1,c2,c3,c4,c5,c6⟩,hB1⟩:=box7 hB;clear hB hb;have g1:=h.names.below hB1;have g2:=h.sizes.below hB1;have g3:=h.col.below hB1) | (go_at_call 42;refine (listFits_any _ _ ns zs hnl hml _ (by exact g1) (by exact g2)).mono ?_;rintro r w' ⟨hw',hb⟩;obtain rfl:=hb.yes H2.out;obtain rfl:=hw'.symm;clear hb) | (go_at_call 35;refine (contentFits_any _ _ ns zs hnl hzl H2.out _ (by exact g1) (by exact g2)).mono ?_;rintro r w' ⟨hw',hb⟩;obtain rfl:=hb.yes H3.out;obtain rfl:=hw'.symm;clear hb) | (go_at_call 43;refine (totalP_any _ zs hzl hzo ht _ (by exact g2)).mono ?_;rintro r w' ⟨rfl,hw'⟩;obtain rfl:=hw'.symm))
  clear H1 H2 h c1 c3 c4 c5
  have hF:=usedI_range k i (tot zs) hk1 ht
  obtain ⟨t,et⟩:∃ t,tot zs=t:=⟨_,rfl⟩
  rw [et] at HE ht hF ⊢
  clear hzo et hml
  have K1:=fun n=>clength_any (k:Int) (t:Int) k t rfl rfl hk1 (by omega) ht (w1.drewN n)
  have K2:=fun n=>used_any (k:Int) (i:Int) (t:Int) k i t rfl rfl rfl hk1 (by omega) (by omega) ht (w1.drewN n)
  have K3:=fun n=>firstI_any (usedI k i t) (by omega) _ col hcl (w1.drewN n) (g3.drewN n)
  have hLr:=lenC_le hk1 t
  have hfr:=firstI_range col (usedI k i t)
  obtain ⟨u,eu⟩:∃ u,usedI k i t=u:=⟨_,rfl⟩
  obtain ⟨f,ef⟩:∃ f,firstI col u=f:=⟨_,rfl⟩
  obtain ⟨L,eL⟩:∃ L,lenC k t=L:=⟨_,rfl⟩
  simp only [eu,ef] at HE K3 hfr
  simp only [eu] at K2
  simp only [eL] at HE K1 hLr
  clear eu ef eL hF
  by_cases q1:col.length=L
  · have HQ:Hid (E=if 0≤f then 8 else 0):=by have:=HE.out;rw [if_neg (by simpa using q1)] at this;exact this
    clear HE
    subst q1
    rcases Int.lt_or_le f 0 with q2 | q2
    · have HQ2:Hid (E=0):=by have:=HQ.out;rw [if_neg (by omega)] at this;exact this
      clear HQ
      go_wp2_with fail
      go_big_quiet (first | (go_at_call 44;exact (K1 _).mono (fun _ _ h=>⟨h.1,_,h.2⟩)))
      go_wp2_with fail
      go_big_quiet (first | (go_at_call 46;exact (K2 _).mono (fun _ _ h=>⟨h.1,_,h.2⟩)) | (go_at_call 45;exact (K3 _).mono (fun _ _ h=>⟨h.1,_,h.2⟩)))
      go_wp2
      go_ret
      exact ⟨ret_i64 (by rw [HQ2.out];rfl),below_drewN (by first | exact hB1 | exact below_drewN hB1 _) _⟩
    · have HQ2:Hid (E=8):=by have:=HQ.out;rw [if_pos q2] at this;exact this
      clear HQ
      go_wp2_with fail
      go_big_quiet (first | (go_at_call 44;exact (K1 _).mono (fun _ _ h=>⟨h.1,_,h.2⟩)))
      go_wp2_with fail
      go_big_quiet (first | (go_at_call 46;exact (K2 _).mono (fun _ _ h=>⟨h.1,_,h.2⟩)) | (go_at_call 45;exact (K3 _).mono (fun _ _ h=>⟨h.1,_,h.2⟩)))
      go_wp2
      go_ret
      exact ⟨ret_i64 (by rw [HQ2.out];rfl),below_drewN (by first | exact hB1 | exact below_drewN hB1 _) _⟩
  · have HQ:Hid (E=15):=by have:=HE.out;rw [if_pos q1] at this;exact this
    have hne:((col.length:Int) == (L:Int))=false:=by simp;omega
    have hne2:((col.length:Int) != (L:Int))=true:=by simp;omega
    clear HE
    go_wp2_with fail
    go_big_quiet (first | (go_at_call 44;exact (K1 _).mono (fun _ _ h=>⟨h.1,_,h.2⟩)))
    go_wp2
    go_ret
    exact ⟨ret_i64 (by rw [HQ.out];rfl),below_drewN hB1 _⟩
end
end Go.Proofs.YtkpcmfgeanlcnabGreatDoor

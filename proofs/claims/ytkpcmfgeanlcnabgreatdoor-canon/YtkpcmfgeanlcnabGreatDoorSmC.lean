/-
  The blobs of the statements, by raw numbers: run alone.
-/
import Derived.Test.YtkpcmfgeanlcnabGreatDoorSmB
namespace Go.Proofs.YtkpcmfgeanlcnabGreatDoor
open Go.RowKit Go.Deep Go.Hp
structure ArI (h:Nat) (w:World) (i:Nat) (f:Nat→Ent) (D:Nat→List UInt8) (va:Value) (wr:World):Prop where
  own:wr.ownsRow h 42 2 va i (blobL i f)
  nm:∀ j,j < i→(f j).k=nmOf j
  len:∀ j,j < i→(D j).length < 14
  dat:∀ j,j < i→∃ B,wr.ownsRow B 5 1 (f j).d (D j).length (u8V (D j))
  bel:Below h w wr
structure BlI (i pb:Nat) (w:World) (L:List UInt8) (vd:Value) (wq:World):Prop where
  row:RowAt wq pb [strV (nmOf i),vd] 42
  own:wq.ownsRow (pb+1) 5 1 vd L.length (u8V L)
  bel:Below w.heap.size w wq
  pb:w.heap.size≤pb
theorem form_d {w:World} {B n:Nat} {v:Value} {xs:List Value} (h:w.ownsRow B 5 1 v n xs) (k:List UInt8):∃ e:Ent,e.k=k∧e.d=v:=by
  rcases h.2 with ⟨h1,h2⟩ | ⟨g,cap,cur,rfl,h2,h3,h4,_⟩
  · subst h1
    exact ⟨⟨k,none,0,0⟩,rfl,rfl⟩
  · exact ⟨⟨k,some ⟨g,0,none⟩,_,cap⟩,rfl,rfl⟩
theorem data_owns {w:World} {B:Nat} {e:Ent} {L:List UInt8} (h:w.ownsRow B 5 1 e.d L.length (u8V L)):DataAt w e L:=by
  rcases h.2 with ⟨h1,h2⟩ | ⟨g,cap,cur,h1,h2,h3,h4,_⟩
  · unfold Ent.d at h1
    cases h1':e.a with
    | none=>
      rw [h1'] at h1
      simp only [Value.slice.injEq,true_and] at h1
      exact ⟨by omega,.inl ⟨h1',h1.1,h1.2⟩⟩
    | some x=>rw [h1'] at h1;simp at h1
  · have h1':=h1
    unfold Ent.d at h1'
    simp only [Value.slice.injEq] at h1'
    refine ⟨h1'.2.1.symm,.inr ⟨_,h1'.1,fun j u hj => ?_⟩⟩
    have hl:j < (u8V L).length:=(List.getElem?_eq_some_iff.1 hj).1
    rw [h1] at h
    rw [addr_addD,Nat.zero_add,h.cellAt j (by simpa [u8V] using hl)]
    exact hj
theorem ArI.next {h i pb:Nat} {w wr wq:World} {f:Nat→Ent} {D:Nat→List UInt8} {va vd:Value} {L:List UInt8} (H:ArI h w i f D va wr) (hB:BlI i pb wr L vd wq) (hh:h≤wr.heap.size) :
    ∃ e:Ent,e.k=nmOf i∧e.d=vd∧wq.ownsRow h 42 2 va i (blobL i f)∧wq.ownsRow (pb+1) 5 1 e.d L.length (u8V L)∧(∀ j,j < i→∃ B,wq.ownsRow B 5 1 (f j).d (D j).length (u8V (D j)))∧Below h w wq:=by
  obtain ⟨e,h1,h2⟩:=form_d hB.own (nmOf i)
  exact ⟨e,h1,h2,owns_keep' H.own fun g hg=>hB.bel.block g (H.own.lt g hg).2,h2 ▸ hB.own,fun j hj=>by
    obtain ⟨B,hBj⟩:=H.dat j hj
    exact ⟨B,owns_keep' hBj fun g hg=>hB.bel.block g (hBj.lt g hg).2⟩,H.bel.trans (hB.bel.mono hh)⟩
theorem byte_k {k:Nat} (h:k < 256):(k:Int)=(((UInt8.ofNat k).toNat:Nat):Int):=by rw [UInt8.toNat_ofNat',Nat.mod_eq_of_lt h]
theorem BlI.row1 {i pb:Nat} {w wq w1:World} {L:List UInt8} {vd:Value} {o:Obj} (H:BlI i pb w L vd wq) (hg:(wq.alloc o).grownBy w1 vd.ownBlock):RowAt w1 pb [strV (nmOf i),vd] 42:=by
  have hlt:=H.row.lt
  have e:=hg.block pb (by simp;omega) (fun e=>by have:=(H.own.lt pb e.symm).1;omega)
  unfold RowAt
  rw [e,Below.heap_alloc _ _ _ hlt]
  exact H.row
theorem BlI.add {i pb:Nat} {w wq w1:World} {L:List UInt8} {vd v':Value} {o:Obj} (H:BlI i pb w L vd wq) (x:UInt8) (ho:w1.ownsRow (pb+1) 5 1 v' (L.length+1) (u8V L++[.int .u8 (x.toNat:Int)])) (hg:(wq.alloc o).grownBy w1 vd.ownBlock):BlI i pb w (L++[x]) v' (w1.setCell ⟨pb,1,none⟩ v'):=by
  have hlt:=H.row.lt
  have hp:=H.pb
  refine ⟨(H.row1 hg).set 1 v',?_,?_,hp⟩
  · have e:u8V (L++[x])=u8V L++[.int .u8 (x.toNat:Int)]:=by simp [u8V]
    rw [e,List.length_append]
    exact owns_keep' ho fun g hg=>heap_setCell_other _ _ _ _ (by have:=(ho.lt g hg).1;show g≠pb;omega)
  · have h1:=(H.bel.alloc (Nat.le_of_lt (Nat.lt_of_le_of_lt hp hlt)) o).grown hg (by simp;omega) (fun x hx=>by have:=(H.own.lt x hx).1;omega)
    exact h1.setCell hp _
theorem wrap8 (z:Int):∃ y:Nat,y < 256∧IntKind.u8.wrap z=(y:Int):=by
  have h:IntKind.u8.wrap z=z % 256:=by
    simp [IntKind.wrap,IntKind.bits,IntKind.signed]
  exact ⟨(z % 256).toNat,by omega,by rw [h];omega⟩
theorem blobC_one' (k:List UInt8) (a:Option Addr) (l c:Nat):∀ u∈[Value.string ⟨k.toArray⟩,.slice a l c],u.oneCell' = true:=by
  intro u hu
  simp at hu
  rcases hu with rfl | rfl <;> rfl
theorem ArI.add {h i pb:Nat} {w wr0 wr w1:World} {f:Nat→Ent} {D:Nat→List UInt8} {va v':Value} {o:Obj} {e:Ent} {L:List UInt8} (H:ArI h w i f D va wr0) (ho:w1.ownsRow h 42 2 v' (i+1) (blobL i f++[.string ⟨(nmOf i).toArray⟩,.slice e.a e.l e.c])) (hg:(wr.alloc o).grownBy w1 va.ownBlock) (he:e.k=nmOf i) (hL:L.length < 14)
    (hd:wr.ownsRow (pb+1) 5 1 e.d L.length (u8V L)) (hdd:∀ j,j < i→∃ B,wr.ownsRow B 5 1 (f j).d (D j).length (u8V (D j))) (hb:Below h w wr) (hown:wr.ownsRow h 42 2 va i (blobL i f)) (hw:h≤wr.heap.size):ArI h w (i+1) (fun j=>if j=i then e else f j) (fun j=>if j=i then L else D j) v' w1:=by
  have hk:∀ {B n:Nat} {v:Value} {xs:List Value},wr.ownsRow B 5 1 v n xs→w1.ownsRow B 5 1 v n xs:=fun hx=>owns_keep' hx fun g hg'=>by
    have hlt:=(hx.lt g hg').2
    rw [hg.block g (by simp;omega) (fun e=>kind_ne hown hx (by decide) e.symm hg'),Below.heap_alloc _ _ _ hlt]
  refine ⟨?_,fun j hj => ?_,fun j hj => ?_,fun j hj => ?_,(hb.alloc hw o).grown hg (by simp;omega) (fun x hx=>(hown.lt x hx).1)⟩
  · rw [blobL_succ,blobL_congr (g:=f) fun j hj=>by simp;intro h;omega]
    have e1:blobC (if i=i then e else f i)=[.string ⟨(nmOf i).toArray⟩,.slice e.a e.l e.c]:=by rw [if_pos rfl,blobC,he];rfl
    rw [e1]
    exact ho
  · split
    · rename_i h1;rw [h1];exact he
    · exact H.nm j (by omega)
  · split
    · exact hL
    · exact H.len j (by omega)
  · split
    · exact ⟨_,hk hd⟩
    · obtain ⟨B,h1⟩:=hdd j (by omega)
      exact ⟨B,hk h1⟩
def InR (i pb sz len:Nat) (w:World) (vat vk:Value) (wq:World):Prop:=∃ (k q:Nat) (L:List UInt8) (vd:Value),k≤sz∧k=L.length∧q≤len∧vk = .int .i64 ((k:Nat):Int)∧vat = .int .i64 ((q:Nat):Int)∧BlI i pb w L vd wq
def OutR (h n len:Nat) (w:World) (va vat vi:Value) (wr:World):Prop:=∃ (i q:Nat) (f:Nat→Ent) (D:Nat→List UInt8),i≤n∧q≤len∧vi = .int .i64 ((i:Nat):Int)∧vat = .int .i64 ((q:Nat):Int)∧ArI h w i f D va wr
def ArPost (w:World) (e:Ending) (w':World):Prop:=∃ v m f D,e = .returned v∧m≤5∧ArI w.heap.size w m f D v w'
set_option maxHeartbeats 4000000 in
set_option maxRecDepth 100000 in
theorem archive_any (vr:Value) (zs:List Int) (w:World) (hz:Ints w vr zs) (hlen:zs.length < 9223372036854775807) :
    Calls Tryz.prog 8 #[vr] w fun e w'=>ArPost w e w':=by
  obtain ⟨i0,hi0,hz0,hz1,hz2⟩:=info_parts infoB8
  obtain ⟨i1,hi1,hy0,hy1,hy2⟩:=info_parts Tryz.infoBlob
  obtain ⟨bo,cap2,rfl,hop⟩:=hz.open
  by_cases h0:zs.length=0
  · go_enter Tryz.func8,Tryz.ntmps8
    have e0:(zs.length:Int)=0:=by omega
    go_wp2
    go_ret
    exact ⟨_,0,fun _=>⟨[],none,0,0⟩,fun _=>[],rfl,by omega,⟨World.ownsRow_nil _ _ _ _,fun j hj=>absurd hj (by omega),fun j hj=>absurd hj (by omega),fun j hj=>absurd hj (by omega),Below.refl _ _⟩⟩
  · obtain ⟨b,off,rfl,hb,hcell⟩:=hop (by omega)
    clear hop
    have cz:∀ j,j < zs.length→∃ z,w.cell? ⟨b,off+j,none⟩=some (.int .i64 z)∧In64 z:=fun j hj=>by
      have hzj:zs[j]? = some zs[j]:=List.getElem?_eq_getElem hj
      exact ⟨_,hcell j _ hzj,hz.in64 _ (List.mem_of_getElem? hzj)⟩
    obtain ⟨z0,hc0,hin0⟩:=cz 0 (by omega)
    rw [Nat.add_zero] at hc0
    have hl0:(0:Int) < (zs.length:Int):=by omega
    have hn0:¬ ((zs.length:Int)=0):=by omega
    have hp:=pick_any z0 6 6 rfl hin0.1 hin0.2 (by omega) (by omega)
    have hpl:=pickN_lt z0 (show 0 < 6 by omega)
    go_enter Tryz.func8,Tryz.ntmps8
    generalize pickN z0 6=n at hp hpl
    clear hcell hz h0
    go_wp2_with (first | (go_at_call 10;(with_reducible refine (hp _).mono ?_);rintro e w' ⟨rfl,hw'⟩;obtain rfl:=hw'.symm))
    have hb':=hb
    generalize hh:w.heap.size=h at *
    have start:ArI h w 0 (fun _=>⟨[],none,0,0⟩) (fun _=>[]) (.slice none 0 0) w:=⟨World.ownsRow_nil _ _ _ _,fun j hj=>absurd hj (by omega),fun j hj=>absurd hj (by omega),fun j hj=>absurd hj (by omega),Below.refl _ _⟩
    go_loopw [3,5,6,7,8,9,10] (fun va vat vi _ _ _ _ wr=>OutR h n zs.length w va vat vi wr) (fun _ _ vi _ _ _ _ _=>n - (intOf vi).toNat)
    case atStart=>exact ⟨0,1,_,_,by omega,by omega,rfl,rfl,start⟩
    case round=>
      clear start hc0 hin0 hp
      obtain ⟨i,q,f,D,hi,hq,rfl,rfl,H⟩:=hrel
      have hs:h≤wr.heap.size:=by rw [← hh];exact H.bel.size
      by_cases hlt:i < n
      · have hlt':(i:Int) < (n:Int):=by omega
        have kn:=name_any i (by omega)
        simp only [strV] at kn
        by_cases hql:q < zs.length
        case' pos=>
          have hql':(q:Int) < (zs.length:Int):=by omega
          obtain ⟨z,hcz,hin⟩:=cz q hql
          have kp:=pick_any z 14 14 rfl hin.1 hin.2 (by omega) (by omega)
          have hsz:=pickN_lt z (show 0 < 14 by omega)
          generalize pickN z 14=sz at kp hsz
          rw [← H.bel.cell (p:=⟨b,off+q,none⟩) hb] at hcz
          go_wp2_with (first
            | (go_at_call 17;(with_reducible refine (kn _).mono ?_);rintro e w1 ⟨rfl,hb1⟩;have hcq:=(((Below.refl w1.heap.size w1).alloc (Nat.le_refl _) (.cells #[strV (nmOf i),.slice none 0 0] 42)).cell (p:=⟨b,off+q,none⟩) (Nat.lt_of_lt_of_le (Nat.lt_of_lt_of_le hb hs) hb1.size)).trans ((hb1.cell (p:=⟨b,off+q,none⟩) (Nat.lt_of_lt_of_le hb hs)).trans hcz);simp only [strV] at hcq)
            | (go_at_call 10;(with_reducible refine (kp _).mono ?_);rintro e w' ⟨rfl,hw'⟩;obtain rfl:=hw'.symm))
          clear kp hcz hin hcq hql'
          have hq1:q+1≤zs.length:=by omega
          clear hql
        case' neg=>
          have hql':¬ ((q:Int) < (zs.length:Int)):=by omega
          obtain ⟨sz,hsz,esz⟩:∃ sz:Nat,sz < 14∧((sz:Nat):Int)=0:=⟨0,by omega,rfl⟩
          have hq1:q≤zs.length:=hq
          go_wp2_with (first
            | (go_at_call 17;(with_reducible refine (kn _).mono ?_);rintro e w1 ⟨rfl,hb1⟩))
          rw [← esz]
          have ez:sz < 1:=by omega
          clear hql' hql esz
        all_goals
          have hB0:BlI i w1.heap.size wr [] (.slice none 0 0) (w1.alloc (.cells #[strV (nmOf i),.slice none 0 0] 42)):=⟨RowAt.made w1 [strV (nmOf i),.slice none 0 0] 42,World.ownsRow_nil _ _ _ _,hb1.alloc hb1.size _,hb1.size⟩
          simp only [strV] at hB0
          generalize w1.alloc (.cells #[.string ⟨(nmOf i).toArray⟩,.slice none 0 0] 42)=ws at hB0 ⊢
          generalize w1.heap.size=pb at hB0 ⊢
          clear hb1 kn
          go_loopw [5,9,10] (fun vat vk _ wq=>InR i pb sz zs.length wr vat vk wq) (fun _ vk _ _=>sz - (intOf vk).toNat)
          case atStart=>first | exact ⟨0,q+1,[],_,by omega,rfl,hq1,rfl,by go_num,hB0⟩ | exact ⟨sz,_,[],_,by omega,by simp;omega,hq1,rfl,rfl,hB0⟩
          case round=>
            rename_i wq
            clear hB0 hq1
            obtain ⟨k,q,L,vd,hk,rfl,hq,rfl,rfl,hB⟩:=hrel
            by_cases hks:L.length < sz
            · first | (exfalso;omega) | skip
              all_goals
                have hks':(L.length:Int) < (sz:Int):=by omega
                have c0:=hB.row.cell (i:=0) rfl
                have c1:=hB.row.cell (i:=1) rfl
                simp only [strV] at c0
                by_cases hql:q < zs.length
                case' pos=>
                  have hql':(q:Int) < (zs.length:Int):=by omega
                  obtain ⟨z,hcz,hin⟩:=cz q hql
                  have hwq:=H.bel.trans (hB.bel.mono hs)
                  rw [← hwq.cell (p:=⟨b,off+q,none⟩) hb] at hcz
                  obtain ⟨y,hy,hx⟩:=wrap8 z
                  go_wp2_with (at_builtin;go_loud (refine wpList_append_own _ rfl _ _ 33 rfl (pb+1) 5 i0 (.int .u8 0) 1 1 Tryz.underlying33 hi0 hz0 hz1 hz2 rfl (by decide) _ _ _ rfl (hB.own.alloc _) ⟨wr.heap.size,0,none⟩ 1 1 [.int .u8 (y:Int)] rfl rfl (cell_one_newD _ _ _) (one_u8 _) (by unfold maxLen;omega) (by omega) (by have:=hB.row.lt;simp;omega) ?_;intro v' w1 hown' hgrow _;obtain ⟨gg,cc,rfl,_,_⟩:=hown'.form (by omega);have hr1:=hB.row1 hgrow;have d0:=hr1.cell (i:=0) rfl;have d1:=hr1.cell (i:=1) rfl;have f1:=hr1.frozen 1;have hB2:=hB.add (UInt8.ofNat y) (by rw [← byte_k (k:=y) hy];exact hown') hgrow;simp only [strV] at d0;clear hown' hgrow hr1 c0 c1))
                case' neg=>
                  have hql':¬ ((q:Int) < (zs.length:Int)):=by omega
                  go_wp2_with (at_builtin;go_loud (refine wpList_append_own _ rfl _ _ 33 rfl (pb+1) 5 i0 (.int .u8 0) 1 1 Tryz.underlying33 hi0 hz0 hz1 hz2 rfl (by decide) _ _ _ rfl (hB.own.alloc _) ⟨wr.heap.size,0,none⟩ 1 1 [.int .u8 (L.length:Int)] rfl rfl (cell_one_newD _ _ _) (one_u8 _) (by unfold maxLen;omega) (by omega) (by have:=hB.row.lt;simp;omega) ?_;intro v' w1 hown' hgrow _;obtain ⟨gg,cc,rfl,_,_⟩:=hown'.form (by omega);have hr1:=hB.row1 hgrow;have d0:=hr1.cell (i:=0) rfl;have d1:=hr1.cell (i:=1) rfl;have f1:=hr1.frozen 1;have hB2:=hB.add (UInt8.ofNat L.length) (by rw [← byte_k (k:=L.length) (by omega)];exact hown') hgrow;simp only [strV] at d0;clear hown' hgrow hr1 c0 c1))
                all_goals
                  go_roundw
                  case rel=>first | exact ⟨L.length+1,q+1,L++[UInt8.ofNat y],_,by omega,by simp,by omega,by go_num,by go_num,hB2⟩ | exact ⟨L.length+1,q,L++[UInt8.ofNat L.length],_,by omega,by simp,by omega,by go_num,rfl,hB2⟩
                  case measure=>simp [intOf];omega
            · have hks':¬ ((L.length:Int) < (sz:Int)):=by omega
              obtain ⟨e,he1,he2,ho,hd,hdd,hbb⟩:=H.next hB hs
              have c0:=hB.row.cell (i:=0) rfl
              have c1:=hB.row.cell (i:=1) rfl
              rw [← he2] at c1
              simp only [strV,Ent.d] at c0 c1
              have hpb:=hB.row.lt
              have hwh:h≤wr.heap.size:=by rw [← hh];exact hbb.size
              clear hB he2
              go_wp2_with (at_builtin;go_loud (refine wpList_append_own _ rfl _ _ 26 rfl h 42 i1 (.agg #[.string ⟨#[]⟩,.slice none 0 0]) 2 40 Tryz.underlying26 hi1 hy0 hy1 hy2 rfl (by decide) _ _ _ rfl (ho.alloc _) ⟨wr.heap.size,0,none⟩ 1 1 [.string ⟨(nmOf i).toArray⟩,.slice e.a e.l e.c] rfl rfl (cell_two_new _ _ _ _) (blobC_one' _ _ _ _) (by unfold maxLen;omega) (by omega) (by simp;omega) ?_;intro v' w1 hown' hgrow _))
              go_roundw
              case rel=>exact ⟨i+1,q,fun j=>if j=i then e else f j,fun j=>if j=i then L else D j,by omega,hq,by go_num,rfl,H.add hown' hgrow he1 (by omega) hd hdd hbb ho hwh⟩
              case measure=>simp [intOf];omega
      · obtain rfl:i=n:=by omega
        have hnl:¬ ((i:Int) < (i:Int)):=by omega
        go_wp2
        go_ret
        exact ⟨_,i,f,D,rfl,by omega,hh ▸ H⟩
end Go.Proofs.YtkpcmfgeanlcnabGreatDoor

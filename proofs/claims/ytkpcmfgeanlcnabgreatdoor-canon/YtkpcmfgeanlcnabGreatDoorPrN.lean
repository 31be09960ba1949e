/-
  How the program reads a shard: a piece and its sum (sealed).
  A drawn region that reads, and whose last operations wait for all others: its head is walked once, by the cheap step.
-/
import Derived.Test.YtkpcmfgeanlcnabGreatDoorScanI
import Derived.Test.YtkpcmfgeanlcnabGreatDoorPwA
import Derived.Laws.AppendOwnNone
import Derived.Deep.RegionLaw
import Derived.Deep.CutRange
namespace Go.Proofs.YtkpcmfgeanlcnabGreatDoor
open Go.RowKit Go.Deep
def sealT (z pl:Nat) (t:List UInt8):Option (Nat×Nat):=
  if t.length < z then some (4,pl+t.length)
  else if sumOf (part t 0 (t.length - 8))=le (part t (t.length - 8) 8) 0 8 then none else some (6,pl+(t.length - 8))
def SealPost (w:World) (x:Option (Nat×Nat)) (bt:Option Addr) (tl ct:Nat) (q:Ending) (w':World):Prop:=
  match x with
  | some e=>∃ v,q = .returned (.tuple #[.slice none 0 0,v])∧Chain w' 0 v e.1 e.2∧Below w.heap.size w w'
  | none=>q = .returned (.tuple #[.slice bt (tl - 8) ct,.nilIface])∧∃ j,w' = w.drewN j
section
variable (rb:Nat) (r:Rd) (bc:Option Addr) (cl cc:Nat) (hC:r.vC = .slice bc cl cc) (hm:r.m≤1000000) (hc:r.c≤1000000) (hl:r.ln≤1000000) (hcl:cl≤r.ln) (hnx:r.nx≤2) (t:List UInt8) (bt:Option Addr) (ct:Nat) (hT:r.vT = .slice bt t.length ct) (htl:t.length≤1000000000) (hpl:r.pl≤1000000000000) (w:World) (h:RdAt w rb r) (hL:Lies w r.vT (u8V t)) (hTab:Tab w)
set_option maxHeartbeats 4000000 in
set_option maxRecDepth 100000 in
include hC hm hc hl hcl hnx hT htl hpl h hL hTab in
theorem rsealed_any :
    Calls Tryz.prog 141 #[.pointer (some ⟨rb,0,none⟩)] w fun q w'=>SealPost w (sealT (sizeR r.nx r.c r.m r.ln cl) r.pl t) bt t.length ct q w':=by
  have hz8:8≤sizeR r.nx r.c r.m r.ln cl:=by
    unfold sizeR
    split
    · omega
    · split
      · omega
      · split
        · omega
        · omega
  have KY:=whole_yes rb r bc cl cc hC hm hc hl hcl (by omega) bt t.length ct hT w h
  have KN:=whole_no rb r bc cl cc hC hm hc hl hcl (by omega) bt t.length ct hT htl hpl w h
  obtain ⟨z,ez⟩:∃ z,sizeR r.nx r.c r.m r.ln cl=z:=⟨_,rfl⟩
  simp only [ez] at KY KN hz8 ⊢
  have c12:w.cell? ⟨rb,12,none⟩=some (.slice bt t.length ct):=by rw [← hT];exact RowAt.cell h rfl
  have c11:w.cell? ⟨rb,11,none⟩=some (.int .i64 (r.pl:Int)):=RowAt.cell h rfl
  obtain ⟨pl,epl⟩:∃ pl,r.pl=pl:=⟨_,rfl⟩
  rw [epl] at c11 hpl KN ⊢
  rcases Nat.lt_or_ge t.length z with q | q
  · have HP:Hid (sealT z pl t=some (4,pl+t.length)):=if_pos q
    have K:=KN q
    clear KY KN h hC hT hL
    go_enter Tryz.func141,Tryz.ntmps141
    go_wp2_with (first | (go_at_call 144;refine K.mono ?_;rintro q w2 ⟨v,rfl,g1,g2⟩;obtain ⟨ty,x,rfl⟩:=g1.iface))
    go_ret2
    unfold SealPost
    rw [HP.out]
    exact ⟨_,rfl,g1,g2⟩
  · have K:=KY q
    obtain ⟨b,off,eb,hby⟩:∃ b off,bt=some ⟨b,off,none⟩∧Byt w b off t:=by
      obtain ⟨ba,cap,e1,e2,e3⟩:=hL
      rw [hT,u8V_length] at e1
      cases e1
      obtain ⟨b,off,e4,_⟩:=e3 0 _ (u8V_get (by omega))
      refine ⟨b,off,e4,fun i hi => ?_⟩
      obtain ⟨b',off',e5,e6⟩:=e3 i _ (u8V_get hi)
      rw [e4] at e5
      cases e5
      exact e6
    subst eb
    obtain ⟨en,een⟩:∃ en,t.length=en+8:=⟨t.length - 8,by omega⟩
    have hcap:t.length≤ct:=by
      obtain ⟨ba,cap,e1,e2,e3⟩:=hL
      rw [hT,u8V_length] at e1
      cases e1
      rw [u8V_length] at e2
      exact e2
    have hB1:Byt w b off (part t 0 en):=by have:=hby.part (a:=0) (n:=en) (by omega);exact this
    have hB2:Byt w b (off+en) (part t en 8):=hby.part (by omega)
    have e1:(part t 0 en).length=en:=part_length (by omega)
    have e2:(part t en 8).length=8:=part_length (by omega)
    have K1:=fun n cap=>sumOf_any b off cap (part t 0 en) (by omega) (w.drewN n) hB1 (hTab.heap rfl)
    have K2:=fun n cap=>readNumber_any b (off+en) 8 cap (part t en 8) e2 (by omega) (w.drewN n) hB2
    rw [e1] at K1
    have hS:sealT z pl t=if sumOf (part t 0 en)=le (part t en 8) 0 8 then none else some (6,pl+en):=by
      unfold sealT
      rw [if_neg (by omega),een,Nat.add_sub_cancel]
    have hs1:=sumOf_lt (part t 0 en)
    have hs2:le (part t en 8) 0 8 < 2 ^ 64:=by have:=le_lt (part t en 8) 8 0;simpa using this
    obtain ⟨s1,es1⟩:∃ s1,sumOf (part t 0 en)=s1:=⟨_,rfl⟩
    obtain ⟨s2,es2⟩:∃ s2,le (part t en 8) 0 8=s2:=⟨_,rfl⟩
    rw [es1,es2] at hS
    simp only [es1] at K1 hs1
    simp only [es2] at K2 hs2
    have HS:Hid (sealT z pl t=if s1=s2 then none else some (6,pl+en)):=hS
    rw [een] at c12 hcap htl ⊢
    clear KY KN h hC hT hL hS es1 es2 e1 e2 hB1 hB2 hby een
    by_cases qs:s1=s2
    · have HP:Hid (sealT z pl t=none):=by rw [HS.out,if_pos qs];exact rfl
      subst qs
      clear HS
      go_enter Tryz.func141,Tryz.ntmps141
      go_wp2_with (first | (go_at_call 144;refine K.mono ?_;rintro q w2 ⟨rfl,j,hw2⟩;obtain rfl:=hw2.symm))
      go_big_quiet (first | (go_at_call 72;exact (K1 _ _).mono (fun _ _ h=>⟨h.1,_,h.2⟩)) | (go_at_call 145;exact (K2 _ _).mono (fun _ _ h=>⟨h.1,_,h.2⟩)))
      go_wp2
      go_ret2
      unfold SealPost
      rw [HP.out]
      exact ⟨rfl,_,rfl⟩
    · have HP:Hid (sealT z pl t=some (6,pl+en)):=by rw [HS.out,if_neg qs];exact rfl
      have q':((s1:Int) == (s2:Int))=false:=by simp;omega
      have q2:((s1:Int) != (s2:Int))=true:=by simp;omega
      have hwr:IntKind.i64.wrap ((pl:Int)+(en:Int))=(pl:Int)+(en:Int):=IntWalk.i64_in _ (by omega)
      clear HS
      go_enter Tryz.func141,Tryz.ntmps141
      go_wp2_with (first | (go_at_call 144;refine K.mono ?_;rintro q w2 ⟨rfl,j,hw2⟩;obtain rfl:=hw2.symm))
      go_big_quiet (first | (go_at_call 72;exact (K1 _ _).mono (fun _ _ h=>⟨h.1,_,h.2⟩)) | (go_at_call 145;exact (K2 _ _).mono (fun _ _ h=>⟨h.1,_,h.2⟩)))
      go_wp2_with (first | (go_at_call 77;refine (at_any _ _ 6 (pl+en) (by rfl) (by simp) _).mono ?_;rintro q w2 ⟨v,rfl,g1,g2⟩))
      go_ret2
      unfold SealPost
      rw [HP.out]
      exact ⟨_,rfl,g1,⟨g2.os,g2.tape,g2.output,g2.size,g2.block⟩⟩
end
theorem still_of_quiet_op {P:Program} {o:Oper} {a:Act} {w:World} {K K':Act→Prop} (hk:∀ a,K a→K' a) (h:o.quiet P a (fun w'=>w' = w) K):o.still P a w K':=by
  obtain ⟨v,h1,h2⟩:=h
  have h3:=h1 w rfl
  unfold Oper.quietAt at h3
  unfold Oper.still
  generalize (execOp a.eval o).run P w=R at h3
  unfold Oper.quietUpon at h3
  unfold Oper.stillUpon
  split at h3
  · exact ⟨h3.1,by rw [h3.2];exact hk _ h2⟩
  · exact ⟨h3.1,by rw [← h3.2];exact hk _ h2⟩
  · exact ⟨h3.1,v,h3.2,hk _ h2⟩
  · exact h3.elim
theorem still_of_quiet {P:Program} {ops:Array Oper} {w:World} {Q:Act→Prop}:∀ (l:List Oper) (a:Act),wpQuiet P ops (fun w'=>w' = w) Q l a→wpStill P ops w Q l a
  | [],_,h=>h
  | o :: rest,a,h=>by
    unfold wpQuiet at h
    unfold wpStill
    split
    · rename_i hw
      rw [if_pos hw] at h
      exact still_of_quiet_op (fun a'=>still_of_quiet rest a') h
    · rename_i hw
      rw [if_neg hw] at h
      exact still_of_quiet rest _ h
theorem wp_region_quiet_tail {P:Program} {id:Nat} {Q:Exit→Act→World→Prop} {a:Act} {w:World} {l:List Oper} (n:Nat) (hm:P.follows .mixedOrders=true) (hB:Region.lexTailB .any l.toArray n=true)
    (h:wpQuiet P l.toArray (fun w'=>w' = w.drew) (fun a'=>wpList P l.toArray Q (l.drop n) a' w.drew) (l.take n) a):(Code.region id l.toArray true).wp P Q a w:=
  wp_region_tail n hm hB (still_of_quiet _ _ h)
def St.rd (s:St) (vN vS vC vT vF:Value):Rd:=⟨s.k,s.n,s.i,s.c,vN,vS,vC,s.m,s.ln,s.tt,s.nx,s.pl,vT,vF⟩
structure RI (B:Nat) (w:World) (rb:Nat) (s:St) (t:List UInt8) (vN vS vC vT:Value):Prop where
  rd:RdAt w rb (s.rd vN vS vC vT .nilIface)
  on:w.ownsRow B 9 1 vN s.ns.length (strsV s.ns)
  os:w.ownsRow B 3 1 vS s.zs.length (natV s.zs)
  oc:OwnB B w vC s.col
  ot:OwnB B w vT t
  ap:Apart2 vC vT
  size:B≤w.heap.size
def Mine (rb:Nat) (vC vT:Value) (k:Nat):Prop:=k=rb∨vC.ownBlock=some k∨vT.ownBlock=some k
structure Bd (s:St):Prop where
  m:s.m≤300000
  c:s.c≤65536
  ln:s.ln≤65536
  col:s.col.length≤s.ln
  nx:s.nx≤4
  pl:s.pl≤1000000
theorem OwnB.lies {B:Nat} {w:World} {v:Value} {l:List UInt8} (h:OwnB B w v l):Lies w v (u8V l):=by
  have h2:=h
  unfold OwnB at h
  rcases h.2 with ⟨e,h0⟩ | ⟨g,c,cur,e,hg,hh,hc,_⟩
  · subst e
    have:l=[]:=List.length_eq_zero_iff.1 h0
    subst this
    exact ⟨none,0,rfl,by simp [u8V],fun j u hj=>by simp [u8V] at hj⟩
  · refine ⟨some ⟨g,0,none⟩,c,by rw [e,u8V_length],by rw [u8V_length];exact hc,fun j u hj=>⟨g,0,rfl,?_⟩⟩
    obtain ⟨hj1,rfl⟩:=u8V_at hj
    rw [e] at h2
    have:=World.ownsRow.cellAt h2 j (by omega)
    rw [Nat.zero_add,this]
    exact u8V_get hj1
theorem OwnB.slice {B:Nat} {w:World} {v:Value} {l:List UInt8} (h:OwnB B w v l):∃ ba cap,v = .slice ba l.length cap∧l.length≤cap:=by
  obtain ⟨ba,cap,e,hc,_⟩:=h.lies
  rw [u8V_length] at e hc
  exact ⟨ba,cap,e,hc⟩
set_option maxRecDepth 100000 in
theorem slice_hi (a:Option Addr) (len cap:Nat) (N:Int) (n:Nat) (hN:N=n) (hn:n≤cap):∀ w,(Instr.slice 33 (.slice a len cap) none (some (.int .i64 N)) none).run Tryz.prog w = .ok (.slice a n cap) w:=by
  intro w
  subst hN
  have hu:Tryz.prog.underlying 33=some (.slice (Tryz.prog.elem 33)):=Tryz.underlying33
  rw [run_slice_h w 33 _ _ _ hu .i64 n (by omega) (by omega)]
  have hsz:(sizeOf (Tryz.prog.elem 33)).run Tryz.prog w = .ok 1 w:=by
    simp [sizeOf,go_sem]
    rfl
  rw [hsz]
  simp only [Result.andThen,sliced,Int.toNat_natCast,Nat.mul_one]
  cases a with
  | none=>simp
  | some ad=>simp [Addr.add]
set_option maxRecDepth 100000 in
theorem slice_lo (a:Option Addr) (len cap:Nat) (N:Int) (n:Nat) (hN:N=n) (hn:n≤len):∀ w,(Instr.slice 33 (.slice a len cap) (some (.int .i64 N)) none none).run Tryz.prog w = .ok (.slice (if cap=n then a else a.map (·.add n)) (len - n) (cap - n)) w:=by
  subst hN
  have hu:Tryz.prog.underlying 33=some (.slice (Tryz.prog.elem 33)):=Tryz.underlying33
  have hsz:∀ w,(sizeOf (Tryz.prog.elem 33)).run Tryz.prog w = .ok 1 w:=fun w=>by
    simp [sizeOf,go_sem]
    rfl
  intro w
  rw [run_slice_l w 33 _ _ _ hu .i64 n (by omega) (by omega),hsz]
  simp only [Result.andThen,Int.toNat_natCast,sliced,Nat.mul_one]
def Pt (w:World) (M:Nat→Prop) (v:Value) (p:List UInt8):Prop:=
  (v = .slice none 0 0∧p=[])∨∃ ad cap,v = .slice (some ad) p.length cap∧p.length≤cap∧(0 < p.length→¬ M ad.block)∧∀ j,j < p.length→w.cell? (ad.add j)=some (.int .u8 (bAt p j:Int))
theorem add_block (ad:Addr) (j:Nat):(ad.add j).block=ad.block:=by
  unfold Addr.add
  split <;> rfl
theorem add_add (ad:Addr) (i j:Nat):(ad.add i).add j=ad.add (i+j):=by
  unfold Addr.add
  by_cases h1:i=0
  · simp [h1]
  · by_cases h2:j=0
    · simp [h2]
    · have:¬ i+j=0:=by omega
      simp only [h1,h2,this,if_false,Nat.add_assoc]
theorem Pt.cut {w:World} {M:Nat→Prop} {ad:Addr} {cap n:Nat} {p:List UInt8} (h1:p.length≤cap) (h2:0 < p.length→¬ M ad.block) (h3:∀ j,j < p.length→w.cell? (ad.add j)=some (.int .u8 (bAt p j:Int))) (hn:n≤p.length):Pt w M (.slice (if cap=n then some ad else (some ad).map (·.add n)) (p.length - n) (cap - n)) (p.drop n):=by
  right
  have hl:(p.drop n).length=p.length - n:=by simp
  by_cases q:cap=n
  · rw [if_pos q]
    exact ⟨ad,_,by rw [hl],by rw [hl];omega,fun h=>h2 (by omega),fun j hj=>by rw [hl] at hj;omega⟩
  · rw [if_neg q]
    refine ⟨ad.add n,_,by rw [hl];rfl,by rw [hl];omega,fun h=>by rw [add_block];exact h2 (by omega),fun j hj => ?_⟩
    rw [hl] at hj
    rw [add_add,h3 (n+j) (by omega)]
    simp [bAt,List.getD_eq_getElem?_getD]
theorem Pt.later {w w':World} {M M' S:Nat→Prop} {v:Value} {p:List UInt8} (h:Pt w M v p) (hb:But w.heap.size S w w') (hS:∀ k,S k→M k) (hM:∀ k,k < w.heap.size→M' k→M k):Pt w' M' v p:=by
  rcases h with h | ⟨ad,cap,rfl,h1,h2,h3⟩
  · exact .inl h
  · right
    refine ⟨ad,cap,rfl,h1,fun h => ?_,fun j hj => ?_⟩
    · have hlt:(ad.add 0).block < w.heap.size:=cell_lt (h3 0 h)
      rw [add_block] at hlt
      exact fun x=>h2 h (hM _ hlt x)
    · have hlt:(ad.add j).block < w.heap.size:=cell_lt (h3 j hj)
      have hnS:¬ S (ad.add j).block:=fun x=>h2 (by omega) (by rw [add_block] at x;exact hS _ x)
      rw [hb.cell hlt hnS]
      exact h3 j hj
theorem step_append_at {P:Program} {ops:Array Oper} {o:Oper} {a:Act} {w:World} {K:Act→World→Prop} {Q:Exit→Act→World→Prop} {E:Prop}
    (hg:o.guard=none) (s x:Operand) (t:TypeId) (hop:o.op=Op.call { callee:=Callee.builtin Builtin.append,args:=#[s,x],argTypes:=#[t,t] })
    (base:Nat) (e:TypeId) (i:TypeInfo) (z:Value) (size bytes:Nat) (h1:P.underlying t=some (.slice e)) (h2:P.info? e=some i) (h3:i.zero=some z) (h4:i.size=size) (h5:i.bytes=bytes) (h6:z.cells.size=size) (h7:0 < size)
    (v:Value) (n:Nat) (xs:List Value) (hs:a.eval s=v) (hown:w.ownsRow base e size v n xs)
    (ad:Addr) (m c:Nat) (news:List Value) (hx:a.eval x = .slice (some ad) m c) (hn:news.length=m*size) (hc:∀ j u,news[j]? = some u→w.cell? (ad.add j)=some u) (h1c:∀ u∈news,u.oneCell' = true)
    (b1:n+m≤maxLen) (b2:(n+m)*bytes≤140737488355328) (hbase:base≤w.heap.size)
    (hK:∀ v' w',w'.ownsRow base e size v' (n+m) (xs++news)→w.grownBy w' v.ownBlock→(v'.ownBlock=v.ownBlock∨v'.ownBlock=some w.heap.size)→K (a.put o.dst v') w') :
    if Region.wanted o (yielded ops a.tmps)=true then Oper.wp P o a w K Q else E:=by
  have hw:Region.wanted o (yielded ops a.tmps)=true:=by simp [Region.wanted,hg]
  rw [if_pos hw]
  obtain ⟨v',w',hr,r1,r2,_,r4⟩:=run_append_own_at (P:=P) w base t o.type e i z size bytes h1 h2 h3 h4 h5 h6 h7 v n xs hown ad m c news hn hc h1c b1 b2 hbase
  unfold Oper.wp
  simp [execOp,hop,resolve,invoke,builtin,hs,hx,hr,Result.andThen]
  exact hK v' w' r1 r2 r4
theorem step_append_nil {P:Program} {ops:Array Oper} {o:Oper} {a:Act} {w:World} {K:Act→World→Prop} {Q:Exit→Act→World→Prop} {E:Prop}
    (hg:o.guard=none) (s x:Operand) (t:TypeId) (hop:o.op=Op.call { callee:=Callee.builtin Builtin.append,args:=#[s,x],argTypes:=#[t,t] })
    (base:Nat) (e:TypeId) (i:TypeInfo) (size:Nat) (h1:P.underlying t=some (.slice e)) (h2:P.info? e=some i)
    (v:Value) (n:Nat) (xs:List Value) (hs:a.eval s=v) (hown:w.ownsRow base e size v n xs) (hx:a.eval x = .slice none 0 0)
    (hK:K (a.put o.dst v) w) :
    if Region.wanted o (yielded ops a.tmps)=true then Oper.wp P o a w K Q else E:=by
  have hw:Region.wanted o (yielded ops a.tmps)=true:=by simp [Region.wanted,hg]
  rw [if_pos hw]
  have hr:=run_append_owned_none (P:=P) (w:=w) base t o.type e i size h1 h2 v n xs hown
  unfold Oper.wp
  simp [execOp,hop,resolve,invoke,builtin,hs,hx,hr,Result.andThen]
  exact hK
theorem owns_kind {w:World} {B e n:Nat} {v:Value} {xs:List Value} (h:w.ownsRow B e 1 v n xs) {g:Nat} (hg:v.ownBlock=some g):∃ cur,w.heap[g]? = some (.cells cur e (0,0)):=by
  rcases h.2 with ⟨rfl,_⟩ | ⟨g',cap,cur,rfl,_,hh,_⟩
  · cases hg
  · cases hg
    exact ⟨cur,hh⟩
theorem owns_rd {w:World} {B e n rb:Nat} {v:Value} {xs:List Value} {r:Rd} (h:w.ownsRow B e 1 v n xs) (hr:RdAt w rb r) (he:e≠91):v.ownBlock≠some rb:=by
  intro hg
  obtain ⟨cur,hh⟩:=owns_kind h hg
  have hr':w.heap[rb]? = some (.cells r.cells.toArray 91 (0,0)):=hr
  rw [hr'] at hh
  cases hh
  exact he rfl
theorem owns_apart {w:World} {B e e' n n':Nat} {v v':Value} {xs xs':List Value} (h:w.ownsRow B e 1 v n xs) (h':w.ownsRow B e' 1 v' n' xs') (he:e≠e'):Apart2 v v':=by
  intro g hg hg'
  obtain ⟨cur,hh⟩:=owns_kind h hg
  obtain ⟨cur',hh'⟩:=owns_kind h' hg'
  rw [hh] at hh'
  cases hh'
  exact he rfl
theorem RdAt.setT {w:World} {rb:Nat} {s:St} {vN vS vC vT vF:Value} (h:RdAt w rb (s.rd vN vS vC vT vF)) (v:Value):RdAt (w.setCell ⟨rb,12,none⟩ v) rb (s.rd vN vS vC v vF):=RowAt.set h 12 v
theorem owns_set {w:World} {B e n rb i:Nat} {v u:Value} {xs:List Value} (h:w.ownsRow B e 1 v n xs) (hr:v.ownBlock≠some rb):(w.setCell ⟨rb,i,none⟩ u).ownsRow B e 1 v n xs:=
  owns_later h (fun g hg=>Below.heap_setCell _ _ _ _ (fun e=>hr (by rw [hg,e])))
theorem RI.text {B rb:Nat} {w w1:World} {s:St} {t x:List UInt8} {vN vS vC vT v1:Value} (I:RI B w rb s t vN vS vC vT) (h1:OwnB B w1 v1 (t++x)) (hg:w.grownBy w1 vT.ownBlock) (hk:v1.ownBlock=vT.ownBlock∨v1.ownBlock=some w.heap.size) :
    RI B (w1.setCell ⟨rb,12,none⟩ v1) rb s (t++x) vN vS vC v1∧But w.heap.size (Mine rb vC vT) w (w1.setCell ⟨rb,12,none⟩ v1)∧w1.cell? ⟨rb,12,none⟩=some vT∧w1.frozen? ⟨rb,12,none⟩=false:=by
  have hrlt:=RowAt.lt I.rd
  have hT:=owns_rd I.ot I.rd (by decide)
  have hR1:RdAt w1 rb (s.rd vN vS vC vT .nilIface):=by
    unfold RdAt RowAt at *
    rw [hg.block rb hrlt (fun e=>hT e.symm)]
    exact I.rd
  have key:∀ {e n:Nat} {v:Value} {xs:List Value},w.ownsRow B e 1 v n xs→Apart2 v vT→w1.ownsRow B e 1 v n xs:=fun h ha=>owns_later h (fun g hg'=>hg.block g (h.lt g hg').2 (fun e=>ha g hg' e.symm))
  have hN1:=key I.on (owns_apart I.on I.ot (by decide))
  have hS1:=key I.os (owns_apart I.os I.ot (by decide))
  have hC1:=key I.oc I.ap
  refine ⟨⟨hR1.setT v1,owns_set hN1 (owns_rd hN1 hR1 (by decide)),owns_set hS1 (owns_rd hS1 hR1 (by decide)),owns_set hC1 (owns_rd hC1 hR1 (by decide)),owns_set h1 (owns_rd h1 hR1 (by decide)),?_,?_⟩,?_,RowAt.cell hR1 (i:=12) rfl,RowAt.frozen hR1 12⟩
  · intro g hg1 hg2
    rcases hk with e | e
    · exact I.ap g hg1 (e ▸ hg2)
    · have h2:=(World.ownsRow.lt I.oc g hg1).2
      rw [e] at hg2
      cases hg2
      omega
  · have:=I.size;have:=hg.size;simp;omega
  · exact But.setCell (But.mono (But.of_grown hg) (Nat.le_refl _) (fun k hk=>.inr (.inr hk))) (p:=⟨rb,12,none⟩) (.inr (.inl rfl)) v1
theorem u8V_app (a b:List UInt8):u8V a++u8V b=u8V (a++b):=by simp [u8V]
theorem St.sz_le {s:St} (hb:Bd s):s.sz≤400000:=by
  unfold St.sz sizeR
  have:=hb.m;have:=hb.c;have:=hb.ln
  split
  · omega
  · split
    · omega
    · split
      · omega
      · omega
theorem RI.drewN {B rb:Nat} {w:World} {s:St} {t:List UInt8} {vN vS vC vT:Value} (I:RI B w rb s t vN vS vC vT) (j:Nat):RI B (w.drewN j) rb s t vN vS vC vT:=⟨I.rd,I.on,I.os,I.oc,I.ot,I.ap,I.size⟩
theorem RI.drew {B rb:Nat} {w:World} {s:St} {t:List UInt8} {vN vS vC vT:Value} (I:RI B w rb s t vN vS vC vT):RI B w.drew rb s t vN vS vC vT:=⟨I.rd,I.on,I.os,I.oc,I.ot,I.ap,I.size⟩
theorem own_app {B n:Nat} {w:World} {v:Value} {t x:List UInt8} (h:w.ownsRow B 5 1 v n (u8V t++u8V x)):OwnB B w v (t++x):=by
  rw [u8V_app] at h
  exact OwnB.of h
theorem Mine.fresh {rb H k:Nat} {vC vT v':Value} (hk:v'.ownBlock=vT.ownBlock∨v'.ownBlock=some H) (hlt:k < H) (h:Mine rb vC v' k):Mine rb vC vT k:=by
  rcases h with h | h | h
  · exact .inl h
  · exact .inr (.inl h)
  · rcases hk with e | e
    · exact .inr (.inr (e ▸ h))
    · rw [e] at h
      cases h
      omega
theorem Pt.cut_later {w w':World} {rb cp n:Nat} {ad:Addr} {vC vT v':Value} {p:List UInt8} (hcp:p.length≤cp) (hM:0 < p.length→¬ Mine rb vC vT ad.block) (hcell:∀ j,j < p.length→w.cell? (ad.add j)=some (.int .u8 (bAt p j:Int))) (hn:n≤p.length) (hb:But w.heap.size (Mine rb vC vT) w w') (hk:v'.ownBlock=vT.ownBlock∨v'.ownBlock=some w.heap.size) :
    Pt w' (Mine rb vC v') (.slice (if cp=n then some ad else (some ad).map (·.add n)) (p.length - n) (cp - n)) (p.drop n):=by
  have h0:Pt w (Mine rb vC vT) (.slice (some ad) p.length cp) p:=.inr ⟨ad,cp,rfl,hcp,hM,hcell⟩
  have h1:=h0.later hb (fun _ x=>x) (fun k hk' x=>Mine.fresh hk hk' x)
  rcases h1 with ⟨e,_⟩ | ⟨ad',cp',e,h2,h3,h4⟩
  · cases e
  · injection e with e1 e2 e3
    injection e1 with e1
    subst e1 e3
    exact Pt.cut h2 h3 h4 hn
def FillPost (B:Nat) (w:World) (rb:Nat) (s:St) (t p:List UInt8) (vN vS vC vT:Value) (q:Ending) (w':World):Prop:=
  ∃ v' vT',q = .returned v' ∧ Pt w' (Mine rb vC vT') v' (p.drop (s.sz - t.length))∧RI B w' rb s (t++p.take (s.sz - t.length)) vN vS vC vT' ∧ But w.heap.size (Mine rb vC vT) w w' ∧ (vT'.ownBlock=vT.ownBlock∨∃ g,vT'.ownBlock=some g∧w.heap.size≤g)
section
variable (B rb:Nat) (s:St) (t p:List UInt8) (vN vS vC vT vp:Value) (hb:Bd s) (hnx:s.nx≤3) (ht:t.length≤s.sz) (hp:p.length≤4611686018427387904) (w:World) (I:RI B w rb s t vN vS vC vT) (hP:Pt w (Mine rb vC vT) vp p)
set_option maxHeartbeats 4000000 in
set_option maxRecDepth 100000 in
include hb hnx ht hp I hP in
theorem fill_any:Calls Tryz.prog 109 #[.pointer (some ⟨rb,0,none⟩),vp] w fun q w'=>FillPost B w rb s t p vN vS vC vT q w':=by
  obtain ⟨bc,cc,eC,hcc⟩:=I.oc.slice
  obtain ⟨bt,ct,eT,hct⟩:=I.ot.slice
  subst eT
  have KS:=fun n=>size_any rb (s.rd vN vS vC (.slice bt t.length ct) .nilIface) bc s.col.length cc eC (by have:=hb.m;exact Nat.le_trans this (by omega)) (by have:=hb.c;exact Nat.le_trans this (by omega)) (by have:=hb.ln;exact Nat.le_trans this (by omega)) hb.col hnx (w.drewN n) I.rd
  have hsz:sizeR s.nx s.c s.m s.ln s.col.length=s.sz:=rfl
  simp only [St.rd,hsz] at KS
  unfold FillPost
  have hz:=St.sz_le hb
  obtain ⟨z,ez⟩:∃ z,s.sz=z:=⟨_,rfl⟩
  rw [ez] at ht hz
  simp only [ez] at KS ⊢
  have c12:w.cell? ⟨rb,12,none⟩=some (.slice bt t.length ct):=RowAt.cell I.rd (i:=12) rfl
  have f12:=RowAt.frozen I.rd 12
  obtain ⟨n,hn1,hn2⟩:∃ n:Nat,((p.length:Int) < (z:Int) - (t.length:Int)∧n=p.length∨(z:Int) - (t.length:Int)≤(p.length:Int)∧n+t.length=z)∧n≤p.length:=by
    rcases Nat.lt_or_ge p.length (z - t.length) with h | h
    · exact ⟨p.length,.inl ⟨by omega,rfl⟩,Nat.le_refl _⟩
    · exact ⟨z - t.length,.inr ⟨by omega,by omega⟩,h⟩
  have hdrop:p.drop (z - t.length)=p.drop n:=by
    rcases hn1 with ⟨h1,h2⟩ | ⟨h1,h2⟩
    · rw [List.drop_of_length_le (by omega),List.drop_of_length_le (by omega)]
    · rw [show z - t.length=n by omega]
  have htake:p.take (z - t.length)=p.take n:=by
    rcases hn1 with ⟨h1,h2⟩ | ⟨h1,h2⟩
    · rw [List.take_of_length_le (by omega),List.take_of_length_le (by omega)]
    · rw [show z - t.length=n by omega]
  rw [hdrop,htake]
  have K:∀ j,Calls Tryz.prog 130 #[.pointer (some ⟨rb,0,none⟩)] (w.drewN j) fun q w'=>q = .returned (.int .i64 (z:Int))∧∃ n,w' = w.drewN n:=fun j=>
    (KS j).mono fun q w' x=>⟨x.1,by obtain ⟨i,hi⟩:=x.2;exact ⟨j+i,by rw [hi];simp [World.drewN,Nat.add_assoc]⟩⟩
  obtain ⟨i0,hi0,hz0,hz1,hz2⟩:=info_parts infoB8
  have htl:t.length≤400000:=by omega
  have hnz:n≤400000:=by omega
  have hw64:IntKind.i64.wrap ((z:Int) - (t.length:Int))=(z:Int) - (t.length:Int):=IntWalk.i64_in _ (by omega)
  have hBs:=I.size
  clear KS ez hsz hdrop htake
  rcases hP with ⟨rfl,rfl⟩ | ⟨ad,cp,rfl,hcp,hM,hcell⟩
  · obtain rfl:n=0:=by simpa using hn2
    have sh:=slice_hi none 0 0 0 0 rfl (by omega)
    have sl:=slice_lo none 0 0 0 0 rfl (by omega)
    simp only [if_true] at sl
    have hot:=I.ot
    unfold OwnB at hot
    have hq:(0:Int)≤(z:Int) - (t.length:Int):=by omega
    have hJ:∀ j,But w.heap.size (Mine rb vC (.slice bt t.length ct)) w ((w.drewN j).setCell ⟨rb,12,none⟩ (.slice bt t.length ct)):=fun j=>((But.refl w.heap.size _ w).drewN j).setCell (p:=⟨rb,12,none⟩) (.inr (.inl rfl)) _
    have JN:=fun j=>RI.text (w1:=w.drewN j) (x:=[]) I (by have:=I.ot;rw [List.append_nil];exact this) ⟨rfl,rfl,rfl,Nat.le_refl _,fun _ _ _=>rfl⟩ (.inl rfl)
    clear hn1
    rcases Int.lt_or_le 0 ((z:Int) - (t.length:Int)) with h1 | h1
    all_goals
      try (have h1':(z:Int) - (t.length:Int)=0:=by omega)
      go_enter Tryz.func109,Tryz.ntmps109
      go_wp2_with fail
      go_big_quiet (first | (go_at_call 130;exact (K _).mono (fun _ _ h=>⟨h.1,h.2⟩)))
      go_wp2_with fail
      go_region_law ((refine step_append_nil rfl _ _ 33 rfl B 5 i0 1 Tryz.underlying33 hi0 _ _ _ rfl (by exact hot) rfl ?_))
      go_wp2
      go_ret
      exact ⟨_,_,rfl,.inl ⟨rfl,rfl⟩,(JN _).1,hJ _,.inl rfl⟩
  · have sh:=slice_hi (some ad) p.length cp (n:Int) n rfl (by omega)
    have sl:=slice_lo (some ad) p.length cp (n:Int) n rfl hn2
    obtain ⟨ra,era⟩:∃ ra,(if cp=n then some ad else (some ad).map (·.add n))=ra:=⟨_,rfl⟩
    simp only [era] at sl
    have htk:(p.take n).length=n:=by simp;omega
    have hnews:∀ j u,(u8V (p.take n))[j]? = some u→w.cell? (ad.add j)=some u:=by
      intro j u hj
      obtain ⟨h1,rfl⟩:=u8V_at hj
      rw [htk] at h1
      rw [hcell j (by omega)]
      simp [bAt,List.getD_eq_getElem?_getD,h1]
    have hot:=I.ot
    unfold OwnB at hot
    rcases hn1 with ⟨h1,h2⟩ | ⟨h1,h2⟩
    · subst h2
      go_enter Tryz.func109,Tryz.ntmps109
      go_wp2_with fail
      go_big_quiet (first | (go_at_call 130;exact (K _).mono (fun _ _ h=>⟨h.1,h.2⟩)))
      go_wp2_with fail
      go_region_law ((refine step_append_at rfl _ _ 33 rfl B 5 i0 (.int .u8 0) 1 1 Tryz.underlying33 hi0 hz0 hz1 hz2 rfl (by decide) _ _ _ rfl (by exact hot) ad p.length cp (u8V (p.take p.length)) rfl (by rw [u8V_length,htk];omega) (by exact hnews) (u8V_one _) (by unfold maxLen;omega) (by omega) (by exact hBs) ?_;intro v2 w2 hown2 hgrow2 hblk2;have ow:=own_app hown2;obtain ⟨b2,c2,rfl,hc2⟩:=ow.slice;obtain ⟨J,hJ,x12,y12⟩:=RI.text ((I.drewN _).drew) ow hgrow2 hblk2))
      go_wp2
      go_ret
      have e2:(t++p.take p.length).length=t.length+p.length:=by rw [List.length_append,htk]
      rw [e2] at J hJ hblk2
      have hJ':But w.heap.size (Mine rb vC (.slice bt t.length ct)) w _:=((But.refl w.heap.size _ w).drewN (nq+1)).trans hJ
      have hpt:=Pt.cut_later hcp hM hcell hn2 hJ' hblk2
      rw [era,Nat.sub_self] at hpt
      exact ⟨_,_,rfl,hpt,J,hJ',by rcases hblk2 with e | e;exact .inl e;exact .inr ⟨_,e,Nat.le_refl _⟩⟩
    · have h3:(z:Int) - (t.length:Int)=(n:Int):=by omega
      have h1':(n:Int)≤(p.length:Int):=by omega
      clear h1 h2
      go_enter Tryz.func109,Tryz.ntmps109
      go_wp2_with fail
      go_big_quiet (first | (go_at_call 130;exact (K _).mono (fun _ _ h=>⟨h.1,h.2⟩)))
      go_wp2_with fail
      go_region_law ((refine step_append_at rfl _ _ 33 rfl B 5 i0 (.int .u8 0) 1 1 Tryz.underlying33 hi0 hz0 hz1 hz2 rfl (by decide) _ _ _ rfl (by exact hot) ad n cp (u8V (p.take n)) rfl (by rw [u8V_length,htk];omega) (by exact hnews) (u8V_one _) (by unfold maxLen;omega) (by omega) (by exact hBs) ?_;intro v2 w2 hown2 hgrow2 hblk2;have ow:=own_app hown2;obtain ⟨b2,c2,rfl,hc2⟩:=ow.slice;obtain ⟨J,hJ,x12,y12⟩:=RI.text ((I.drewN _).drew) ow hgrow2 hblk2))
      go_wp2
      go_ret
      have e2:(t++p.take n).length=t.length+n:=by rw [List.length_append,htk]
      rw [e2] at J hJ hblk2
      have hJ':But w.heap.size (Mine rb vC (.slice bt t.length ct)) w _:=((But.refl w.heap.size _ w).drewN (nq+1)).trans hJ
      have hpt:=Pt.cut_later hcp hM hcell hn2 hJ' hblk2
      rw [era] at hpt
      exact ⟨_,_,rfl,hpt,J,hJ',by rcases hblk2 with e | e;exact .inl e;exact .inr ⟨_,e,Nat.le_refl _⟩⟩
end
theorem OwnB.none {B:Nat} {w:World} {bt:Option Addr} {n ct:Nat} {l:List UInt8} (h:OwnB B w (.slice bt n ct) l):OwnB B w (.slice bt 0 ct) []:=by
  unfold OwnB at *
  refine ⟨by simp [u8V],?_⟩
  rcases h.2 with ⟨e,h0⟩ | ⟨g,c,cur,e,hg,hh,hc,hm,hs,_⟩
  · cases e
    exact .inl ⟨rfl,rfl⟩
  · cases e
    exact .inr ⟨g,ct,cur,rfl,hg,hh,Nat.zero_le _,hm,hs,by simp [u8V]⟩
theorem RI.put {B rb i:Nat} {w:World} {s s':St} {t t':List UInt8} {vN vS vC vT vT' u:Value} (I:RI B w rb s t vN vS vC vT) (h:(s.rd vN vS vC vT .nilIface).cells.set i u=(s'.rd vN vS vC vT' .nilIface).cells) (h1:s'.ns=s.ns) (h2:s'.zs=s.zs) (h3:s'.col=s.col) (hT:OwnB B w vT' t') (hk:vT'.ownBlock=vT.ownBlock):RI B (w.setCell ⟨rb,i,none⟩ u) rb s' t' vN vS vC vT':=by
  refine ⟨?_,?_,?_,?_,?_,?_,?_⟩
  · have:=RowAt.set I.rd i u
    unfold RdAt
    rw [← h]
    exact this
  · rw [h1];exact owns_set I.on (owns_rd I.on I.rd (by decide))
  · rw [h2];exact owns_set I.os (owns_rd I.os I.rd (by decide))
  · rw [h3];exact owns_set I.oc (owns_rd I.oc I.rd (by decide))
  · exact owns_set hT (owns_rd hT I.rd (by decide))
  · intro g hg1 hg2
    exact I.ap g hg1 (hk ▸ hg2)
  · have:=I.size;simpa using this
section
variable (B rb:Nat) (s:St) (t:List UInt8) (vN vS vC vT:Value) (hb:Bd s) (ht:t.length≤400000) (w:World) (I:RI B w rb s t vN vS vC vT)
def MovePost (B:Nat) (w:World) (rb:Nat) (s:St) (t:List UInt8) (vN vS vC vT:Value) (q:Ending) (w':World):Prop:=
  q = .returned (.tuple #[])∧∃ vT',RI B w' rb (moveP s t) [] vN vS vC vT' ∧ But w.heap.size (· = rb) w w' ∧ vT'.ownBlock=vT.ownBlock
set_option maxHeartbeats 4000000 in
set_option maxRecDepth 100000 in
include hb ht I in
theorem moveOn_any:Calls Tryz.prog 111 #[.pointer (some ⟨rb,0,none⟩)] w fun q w'=>MovePost B w rb s t vN vS vC vT q w':=by
  obtain ⟨bc,cc,eC,hcc⟩:=I.oc.slice
  obtain ⟨bt,ct,eT,hct⟩:=I.ot.slice
  subst eT
  subst eC
  have hpl:=hb.pl
  have hln:=hb.ln
  have c6:=RowAt.cell I.rd (i:=6) rfl
  have c8:=RowAt.cell I.rd (i:=8) rfl
  have c10:=RowAt.cell I.rd (i:=10) rfl
  have c11:=RowAt.cell I.rd (i:=11) rfl
  have c12:=RowAt.cell I.rd (i:=12) rfl
  have f10:=RowAt.frozen I.rd 10
  have f11:=RowAt.frozen I.rd 11
  have f12:=RowAt.frozen I.rd 12
  simp only [St.rd] at c6 c8 c10 c11 c12
  have sh:=slice_hi bt t.length ct 0 0 rfl (by omega)
  have hnx:=hb.nx
  obtain ⟨nx,enx⟩:∃ nx,s.nx=nx:=⟨_,rfl⟩
  obtain ⟨pl,epl⟩:∃ pl,s.pl=pl:=⟨_,rfl⟩
  obtain ⟨ln,eln⟩:∃ ln,s.ln=ln:=⟨_,rfl⟩
  have hwr:IntKind.i64.wrap ((pl:Int)+(t.length:Int))=(pl:Int)+(t.length:Int):=IntWalk.i64_in _ (by omega)
  rw [enx] at c10 hnx
  rw [epl] at c11 hpl
  rw [eln] at c8 hln
  have I1:RI B (w.setCell ⟨rb,11,none⟩ (.int .i64 ((pl:Int)+(t.length:Int)))).drew rb { s with pl:=pl+t.length } t vN vS _ _:=(I.put (s':={ s with pl:=pl+t.length }) (t':=t) rfl rfl rfl rfl I.ot rfl).drew
  have hB1:But w.heap.size (· = rb) w (w.setCell ⟨rb,11,none⟩ (.int .i64 ((pl:Int)+(t.length:Int)))).drew:=((But.refl w.heap.size (· = rb) w).setCell (p:=⟨rb,11,none⟩) (.inr rfl) _).drew
  have HM:Hid ((moveP s t) = { s with pl:=pl+t.length,nx:=nextP s }):=by show _=_;unfold moveP;rw [epl]
  go_enter Tryz.func111,Tryz.ntmps111
  go_wp2_with fail
  refine wp_region_quiet_tail 12 mixed (by kernel_rfl) ?_
  simp only [List.take_succ_cons,List.take_zero,List.drop_succ_cons,List.drop_zero]
  repeat (first | go_big_quiet_skip | (go_big_quiet_want;go_big_quiet_op;go_big_quiet_on))
  refine wpQuiet_nil ?_
  go_upto_region 1 with (fail)
  clear c6 c8 c10 c11 c12 f10 f11 f12 I
  generalize (w.setCell ⟨rb,11,none⟩ (.int .i64 ((pl:Int)+(t.length:Int)))).drew=w1 at I1 hB1 ⊢
  have I2:RI B _ rb { s with pl:=pl+t.length } [] vN vS _ _:=I1.put (i:=12) (u:=.slice bt 0 ct) (s':={ s with pl:=pl+t.length }) (t':=[]) (vT':=.slice bt 0 ct) rfl rfl rfl rfl I1.ot.none (by cases bt <;> rfl)
  have hB2:=hB1.setCell (p:=⟨rb,12,none⟩) (.inr rfl) (.slice bt 0 ct)
  have c12:=RowAt.cell I1.rd (i:=12) rfl
  have f12:=RowAt.frozen I1.rd 12
  simp only [St.rd] at c12
  go_upto_region 3 with (fail)
  clear c12 f12 I1 hB1
  generalize w1.setCell ⟨rb,12,none⟩ (.slice bt 0 ct)=w2 at I2 hB2 ⊢
  have c6:=RowAt.cell I2.rd (i:=6) rfl
  have c8:=RowAt.cell I2.rd (i:=8) rfl
  have c10:=RowAt.cell I2.rd (i:=10) rfl
  have f10:=RowAt.frozen I2.rd 10
  simp only [St.rd] at c6 c8 c10
  rw [enx] at c10
  rw [eln] at c8
  have J0:∀ (x j:Nat),RI B ((w2.drewN j).setCell ⟨rb,10,none⟩ (.int .i64 (x:Int))) rb { s with pl:=pl+t.length,nx:=x } [] vN vS _ _:=fun x j=>(I2.drewN j).put (s':={ s with pl:=pl+t.length,nx:=x }) (t':=[]) (vT':=.slice bt 0 ct) rfl rfl rfl rfl I2.ot rfl
  have hBB:∀ (j:Nat) (u:Value),But w.heap.size (· = rb) w ((w2.drewN j).setCell ⟨rb,10,none⟩ u):=fun j u=>(hB2.drewN j).setCell (p:=⟨rb,10,none⟩) (.inr rfl) u
  by_cases q0:nx=0
  · have HX:Hid (nextP s=1):=by show _=_;unfold nextP;rw [enx,if_pos q0]
    subst q0
    go_wp2
    go_end0
    refine ⟨rfl,.slice bt 0 ct,?_,hBB 0 _,by cases bt <;> rfl⟩
    rw [HM.out,HX.out]
    exact J0 1 0
  · have q0':((nx:Int) == 0)=false:=by simp;omega
    by_cases q3:nx=3
    · have HX:Hid (nextP s=4):=by show _=_;unfold nextP;rw [enx,if_neg q0,if_pos q3]
      subst q3
      go_wp2
      go_end0
      refine ⟨rfl,.slice bt 0 ct,?_,hBB 0 _,by cases bt <;> rfl⟩
      rw [HM.out,HX.out]
      exact J0 4 0
    · have q3':((nx:Int) == 3)=false:=by simp;omega
      by_cases q5:s.col.length < ln
      · have HX:Hid (nextP s=2):=by show _=_;unfold nextP;rw [enx,eln,if_neg q0,if_neg q3,if_pos q5]
        go_wp2_with fail
        go_big_quiet (fail)
        go_wp2
        go_end0
        refine ⟨rfl,.slice bt 0 ct,?_,hBB _ _,by cases bt <;> rfl⟩
        rw [HM.out,HX.out]
        exact J0 2 _
      · have HX:Hid (nextP s=3):=by show _=_;unfold nextP;rw [enx,eln,if_neg q0,if_neg q3,if_neg q5]
        go_wp2_with fail
        go_big_quiet (fail)
        go_wp2
        go_end0
        refine ⟨rfl,.slice bt 0 ct,?_,hBB _ _,by cases bt <;> rfl⟩
        rw [HM.out,HX.out]
        exact J0 3 _
end
end Go.Proofs.YtkpcmfgeanlcnabGreatDoor

import Derived.Test.YtnbflnamlpodcaaGreatDoorPrC
set_option maxHeartbeats 4000000
set_option maxRecDepth 100000
namespace Go.Proofs.Y
open Go.Proofs.Tryz
open Go.RowKit Go.Extern.Stop Go.Stop Go.Extern
theorem Wi(t:Addr)(w:World):(callFunc 70 #[.iface 92 (.pointer (some t))]).run prog w
  =.ok (.value (.agg #[.pointer (some ⟨7,92,none⟩),.pointer (some ⟨w.heap.size,0,none⟩),.int .u64 150])) (w.alloc (.cells #[.pointer (some t)] 92)):=ag
theorem G7(t:Addr)(w:World):(callFunc 70 #[.iface 90 (.pointer (some t))]).run prog w
  =.ok (.value (.agg #[.pointer (some ⟨7,90,none⟩),.pointer (some ⟨w.heap.size,0,none⟩),.int .u64 150])) (w.alloc (.cells #[.pointer (some t)] 90)):=ag
theorem adl(a:Addr)(w:World):(callFunc 71 #[.agg #[.pointer (some ⟨7,92,none⟩),.pointer (some a),.int .u64 150]]).run prog w
  =.ok (.value (.iface 191 (.agg #[.pointer (some ⟨7,92,none⟩)]))) w:=ag
theorem adm(w:World):(callFunc 187 #[.agg #[.pointer (some ⟨7,92,none⟩)]]).run prog w=.ok (.value (.iface 191 (.agg #[.pointer (some ⟨7,90,none⟩)]))) w:=ag
theorem UK(w:World):(callFunc 188 #[.agg #[.pointer (some ⟨7,90,none⟩)],.iface 191 (.agg #[.pointer (some ⟨7,59,none⟩)])]).run prog w=.ok (.value (.bool true)) w:=ag
theorem Jl(v:Value)(w:World):(callFunc 101 #[.iface 90 v]).run prog w=.ok (.value (.iface 191 (.agg #[.pointer (some ⟨7,90,none⟩)]))) w:=ag
theorem Jm(v:Value)(w:World):(callFunc 101 #[.iface 137 v]).run prog w=.ok (.value (.iface 191 (.agg #[.pointer (some ⟨7,137,none⟩)]))) w:=ag
theorem Jn(w:World):(callFunc 185 #[.agg #[.pointer (some ⟨7,90,none⟩)],.iface 191 (.agg #[.pointer (some ⟨7,90,none⟩)])]).run prog w=.ok (.value (.bool true)) w:=ag
theorem Jo(w:World):(callFunc 185 #[.agg #[.pointer (some ⟨7,137,none⟩)],.iface 191 (.agg #[.pointer (some ⟨7,90,none⟩)])]).run prog w=.ok (.value (.bool false)) w:=ag
theorem ai2(v:Value)(xT:TypeId)(w:World):(Instr.typeAssert (.iface 137 v) xT 195 true).run prog w=.ok (.tuple #[.nilIface,.bool false]) w:=run_typeAssert_lacksB underlying195 ag ag v xT w
theorem ae0(a:Addr)(w:World):(ReflectliteValue.parts (.agg #[.pointer (some ⟨7,92,none⟩),.pointer (some a),.int .u64 150])).run prog w=.ok (some (92,a,150)) w:=ag
theorem al5(a:Addr)(w:World):(ReflectliteValue.parts (.agg #[.pointer (some ⟨7,90,none⟩),.pointer (some a),.int .u64 406])).run prog w=.ok (some (90,a,406)) w:=ag
theorem aoF(a:Addr)(w:World):(ReflectliteValue.parts (.agg #[.pointer (some ⟨7,90,none⟩),.pointer (some a),.int .u64 150])).run prog w=.ok (some (90,a,150)) w:=ag
theorem al6(w:World):(Rtype.directlyAssignable 90 90).run prog w=.ok true w:=ag
theorem ai3(w:World):(Rtype.elem? 92).run prog w=.ok (some 90) w:=ag
theorem mkP(p:Addr)(w:World):(ReflectliteValue.mk 90 p ReflectliteValue.flagAddr).run prog w=.ok (.agg #[.pointer (some ⟨7,90,none⟩),.pointer (some p),.int .u64 406]) w:=ag
theorem methodAt(z:Sem Value)(f:TypeId->Addr->Nat->Nat->Sem Value)(v:Value):ReflectliteValue.method z f #[v]=(ReflectliteValue.parts v>>=λr=>match r with|none=>z|some (t,a,fl)=>f t a fl (fl%32)):=rfl
theorem al7(a p:Addr)(W:World)(ha:W.cell? a=some (.pointer (some p))):
  (callFunc 72 #[.agg #[.pointer (some ⟨7,92,none⟩),.pointer (some a),.int .u64 150]]).run prog W=.ok (.value (.bool false)) W:=by
 have h:=@run_callFunc_extern prog 72 _ (ReflectliteValue.method (ReflectliteValue.valueError "reflectlite.Value.IsNil" 0) ReflectliteValue.isNil) func72 ag ag ag ag;rw[h];rw[methodAt];simp[Sem.run_bind,ae0,Result.andThen,ReflectliteValue.isNil,loadVar,isAgg,underlying,underlying92,ha]
theorem adn(a p:Addr)(W:World)(ha:W.cell? a=some (.pointer (some p))):
  (callFunc 112 #[.agg #[.pointer (some ⟨7,92,none⟩),.pointer (some a),.int .u64 150]]).run prog W
   =.ok (.value (.agg #[.pointer (some ⟨7,90,none⟩),.pointer (some p),.int .u64 406])) W:=by
 have h:=@run_callFunc_extern prog 112 _ (ReflectliteValue.method (ReflectliteValue.valueError "reflectlite.Value.Elem" 0) ReflectliteValue.elem) func112 ag ag ag ag;rw[h];rw[methodAt];simp[Sem.run_bind,ae0,Result.andThen,ReflectliteValue.elem,loadVar,isAgg,underlying,underlying92,ha,ai3,mkP]
theorem aoG(ta b e:Addr)(old:Value)(W:World)(hb:W.cell? b=some (.pointer (some e)))(ht:W.cell? ta=some old)(hf:W.frozen? ta=false):
  (callFunc 113 #[.agg #[.pointer (some ⟨7,90,none⟩),.pointer (some ta),.int .u64 406],.agg #[.pointer (some ⟨7,90,none⟩),.pointer (some b),.int .u64 150]]).run prog W
   =.ok (.value (.tuple #[])) (W.setCell ta (.pointer (some e))):=by
 have h:=@run_callFunc_extern prog 113 _ ReflectliteValue.set func113 ag ag ag ag;rw[h];have hs:∀v x,ReflectliteValue.set #[v,x]=(ReflectliteValue.parts v>>=λp=>ReflectliteValue.parts x>>=λq=>_):=λv x=>rfl
 rw[hs];simp[Sem.run_bind,al5,aoF,Result.andThen,ReflectliteValue.flagAddr,loadVar,isAgg,underlying,underlying90,hb,al6,storeVar,Value.cells,storeCells,Addr.add];rw[run_store prog W ta _ _ ax];simp[ht,hf]
theorem as0(b:Nat)(ab tb:Nat)(w:World)(ha:w.cell? ⟨ab,0,none⟩=some (.pointer (some ⟨tb,0,none⟩)))(ht:qf w tb [.pointer none] 90):
  Calls prog 73 #[.iface 90 (.pointer (some ⟨b,0,none⟩)),.iface 92 (.pointer (some ⟨tb,0,none⟩)),.agg #[.pointer (some ⟨7,92,none⟩),.pointer (some ⟨ab,0,none⟩),.int .u64 150],.iface 191 (.agg #[.pointer (some ⟨7,90,none⟩)])] w λr w'=>r=.returned (.bool true)/\w'.cell? ⟨tb,0,none⟩=some (.pointer (some ⟨b,0,none⟩))/\ru w.heap.size (λk=>k=tb) w w':=by
 have f1:=Jl;have f2:=Jm;have f3:=Jn;have f4:=Jo;have f5:=G7;have f6:=ai2;have f7:=ED;have hal:=rM ha;have Yp:=ht.lt;have el:=adn ⟨ab,0,none⟩ ⟨tb,0,none⟩ (w.alloc (.cells #[.pointer (some ⟨7,92,none⟩),.pointer (some ⟨ab,0,none⟩),.int .u64 150] 151)) (by rw[ku _ _ ⟨ab,0,none⟩ hal];exact ha);have TD:qf ((w.alloc (.cells #[.pointer (some ⟨7,92,none⟩),.pointer (some ⟨ab,0,none⟩),.int .u64 150] 151)).alloc (.cells #[.pointer (some ⟨b,0,none⟩)] 90)) tb [.pointer none] 90:=(ht.later (S:=λ_=>False) (ru.alloc (ru.refl _ _ _) (ak _) _) Yp id).later (S:=λ_=>False) (ru.alloc (ru.refl _ _ _) (ak _) _) az id;have st:=aoG ⟨tb,0,none⟩ ⟨w.heap.size+1,0,none⟩ ⟨b,0,none⟩ (.pointer none) ((w.alloc (.cells #[.pointer (some ⟨7,92,none⟩),.pointer (some ⟨ab,0,none⟩),.int .u64 150] 151)).alloc (.cells #[.pointer (some ⟨b,0,none⟩)] 90)) (by rw[World.cell?_alloc_at _ _ _ _ ai];rfl) (TD.cell rfl) (TD.frozen 0);have IB:=qf.set ht 0 (.pointer (some ⟨b,0,none⟩));have Ez:=((IB.later (S:=λ_=>False) (ru.alloc (ru.refl _ _ _) (ak _) (.cells #[.pointer (some ⟨7,92,none⟩),.pointer (some ⟨ab,0,none⟩),.int .u64 150] 151)) IB.lt id).later (S:=λ_=>False) (ru.alloc (ru.refl _ _ _) (ak _) (.cells #[.pointer (some ⟨b,0,none⟩)] 90)) az id).cell (i:=0) rfl;have ai4:=(((ru.refl w.heap.size (λk=>k=tb) w).setCell (p:=⟨tb,0,none⟩) (.inr rfl) (.pointer (some ⟨b,0,none⟩))).alloc ai (.cells #[.pointer (some ⟨7,92,none⟩),.pointer (some ⟨ab,0,none⟩),.int .u64 150] 151)).alloc ai (.cells #[.pointer (some ⟨b,0,none⟩)] 90);clear TD IB;go_enter func73,ntmps73;go_wp2;refine jW 1 ?_;rw[f_]
 go_wp2_with(first|fail)
 exact awV
theorem as1(b0 b:Nat)(ab tb:Nat)(w:World)(s0:ByteArray)(h0:qf w b0 [.string s0,.iface 90 (.pointer (some ⟨b,0,none⟩))] 139)(ha:w.cell? ⟨ab,0,none⟩=some (.pointer (some ⟨tb,0,none⟩)))(ht:qf w tb [.pointer none] 90):
  Calls prog 73 #[.iface 137 (.pointer (some ⟨b0,0,none⟩)),.iface 92 (.pointer (some ⟨tb,0,none⟩)),.agg #[.pointer (some ⟨7,92,none⟩),.pointer (some ⟨ab,0,none⟩),.int .u64 150],.iface 191 (.agg #[.pointer (some ⟨7,90,none⟩)])] w λr w'=>r=.returned (.bool true)/\w'.cell? ⟨tb,0,none⟩=some (.pointer (some ⟨b,0,none⟩))/\ru w.heap.size (λk=>k=tb) w w':=by
 have f1:=Jl;have f2:=Jm;have f3:=Jn;have f4:=Jo;have f5:=G7;have f6:=ai2;have f7:=ED;have K0:=Bi b0 s0 _ (w.alloc (.cells #[.pointer (some ⟨7,92,none⟩),.pointer (some ⟨ab,0,none⟩),.int .u64 150] 151)) (h0.later (S:=λ_=>False) (ru.alloc (ru.refl _ _ _) (ak _) _) h0.lt id);have hal:=rM ha;have Yp:=ht.lt;have el:=adn ⟨ab,0,none⟩ ⟨tb,0,none⟩ (w.alloc (.cells #[.pointer (some ⟨7,92,none⟩),.pointer (some ⟨ab,0,none⟩),.int .u64 150] 151)) (by rw[ku _ _ ⟨ab,0,none⟩ hal];exact ha);have TD:qf ((w.alloc (.cells #[.pointer (some ⟨7,92,none⟩),.pointer (some ⟨ab,0,none⟩),.int .u64 150] 151)).alloc (.cells #[.pointer (some ⟨b,0,none⟩)] 90)) tb [.pointer none] 90:=(ht.later (S:=λ_=>False) (ru.alloc (ru.refl _ _ _) (ak _) _) Yp id).later (S:=λ_=>False) (ru.alloc (ru.refl _ _ _) (ak _) _) az id;have st:=aoG ⟨tb,0,none⟩ ⟨w.heap.size+1,0,none⟩ ⟨b,0,none⟩ (.pointer none) ((w.alloc (.cells #[.pointer (some ⟨7,92,none⟩),.pointer (some ⟨ab,0,none⟩),.int .u64 150] 151)).alloc (.cells #[.pointer (some ⟨b,0,none⟩)] 90)) (by rw[World.cell?_alloc_at _ _ _ _ ai];rfl) (TD.cell rfl) (TD.frozen 0);have IB:=qf.set ht 0 (.pointer (some ⟨b,0,none⟩));have Ez:=((IB.later (S:=λ_=>False) (ru.alloc (ru.refl _ _ _) (ak _) (.cells #[.pointer (some ⟨7,92,none⟩),.pointer (some ⟨ab,0,none⟩),.int .u64 150] 151)) IB.lt id).later (S:=λ_=>False) (ru.alloc (ru.refl _ _ _) (ak _) (.cells #[.pointer (some ⟨b,0,none⟩)] 90)) az id).cell (i:=0) rfl;have ai4:=(((ru.refl w.heap.size (λk=>k=tb) w).setCell (p:=⟨tb,0,none⟩) (.inr rfl) (.pointer (some ⟨b,0,none⟩))).alloc ai (.cells #[.pointer (some ⟨7,92,none⟩),.pointer (some ⟨ab,0,none⟩),.int .u64 150] 151)).alloc ai (.cells #[.pointer (some ⟨b,0,none⟩)] 90);clear TD IB;go_enter func73,ntmps73;go_wp2;refine jW 2 ?_;rw[f_]
 go_wp2_with(first|(go_at_call 180;with_reducible refine K0.mono ?_;rintro r w' ⟨rfl,tH⟩;obtain rfl:=tH.symm))
 rw[f_]
 go_wp2_with(first|(go_at_call 180;with_reducible refine K0.mono ?_;rintro r w' ⟨rfl,tH⟩;obtain rfl:=tH.symm))
 exact awV
theorem as2(b0 b1 b:Nat)(ab tb:Nat)(w:World)(s0 s1:ByteArray)(h0:qf w b0 [.string s0,.iface 137 (.pointer (some ⟨b1,0,none⟩))] 139)(h1:qf w b1 [.string s1,.iface 90 (.pointer (some ⟨b,0,none⟩))] 139)(ha:w.cell? ⟨ab,0,none⟩=some (.pointer (some ⟨tb,0,none⟩)))(ht:qf w tb [.pointer none] 90):
  Calls prog 73 #[.iface 137 (.pointer (some ⟨b0,0,none⟩)),.iface 92 (.pointer (some ⟨tb,0,none⟩)),.agg #[.pointer (some ⟨7,92,none⟩),.pointer (some ⟨ab,0,none⟩),.int .u64 150],.iface 191 (.agg #[.pointer (some ⟨7,90,none⟩)])] w λr w'=>r=.returned (.bool true)/\w'.cell? ⟨tb,0,none⟩=some (.pointer (some ⟨b,0,none⟩))/\ru w.heap.size (λk=>k=tb) w w':=by
 have f1:=Jl;have f2:=Jm;have f3:=Jn;have f4:=Jo;have f5:=G7;have f6:=ai2;have f7:=ED;have K0:=Bi b0 s0 _ (w.alloc (.cells #[.pointer (some ⟨7,92,none⟩),.pointer (some ⟨ab,0,none⟩),.int .u64 150] 151)) (h0.later (S:=λ_=>False) (ru.alloc (ru.refl _ _ _) (ak _) _) h0.lt id);have K1:=Bi b1 s1 _ (w.alloc (.cells #[.pointer (some ⟨7,92,none⟩),.pointer (some ⟨ab,0,none⟩),.int .u64 150] 151)) (h1.later (S:=λ_=>False) (ru.alloc (ru.refl _ _ _) (ak _) _) h1.lt id);have hal:=rM ha;have Yp:=ht.lt;have el:=adn ⟨ab,0,none⟩ ⟨tb,0,none⟩ (w.alloc (.cells #[.pointer (some ⟨7,92,none⟩),.pointer (some ⟨ab,0,none⟩),.int .u64 150] 151)) (by rw[ku _ _ ⟨ab,0,none⟩ hal];exact ha);have TD:qf ((w.alloc (.cells #[.pointer (some ⟨7,92,none⟩),.pointer (some ⟨ab,0,none⟩),.int .u64 150] 151)).alloc (.cells #[.pointer (some ⟨b,0,none⟩)] 90)) tb [.pointer none] 90:=(ht.later (S:=λ_=>False) (ru.alloc (ru.refl _ _ _) (ak _) _) Yp id).later (S:=λ_=>False) (ru.alloc (ru.refl _ _ _) (ak _) _) az id;have st:=aoG ⟨tb,0,none⟩ ⟨w.heap.size+1,0,none⟩ ⟨b,0,none⟩ (.pointer none) ((w.alloc (.cells #[.pointer (some ⟨7,92,none⟩),.pointer (some ⟨ab,0,none⟩),.int .u64 150] 151)).alloc (.cells #[.pointer (some ⟨b,0,none⟩)] 90)) (by rw[World.cell?_alloc_at _ _ _ _ ai];rfl) (TD.cell rfl) (TD.frozen 0);have IB:=qf.set ht 0 (.pointer (some ⟨b,0,none⟩));have Ez:=((IB.later (S:=λ_=>False) (ru.alloc (ru.refl _ _ _) (ak _) (.cells #[.pointer (some ⟨7,92,none⟩),.pointer (some ⟨ab,0,none⟩),.int .u64 150] 151)) IB.lt id).later (S:=λ_=>False) (ru.alloc (ru.refl _ _ _) (ak _) (.cells #[.pointer (some ⟨b,0,none⟩)] 90)) az id).cell (i:=0) rfl;have ai4:=(((ru.refl w.heap.size (λk=>k=tb) w).setCell (p:=⟨tb,0,none⟩) (.inr rfl) (.pointer (some ⟨b,0,none⟩))).alloc ai (.cells #[.pointer (some ⟨7,92,none⟩),.pointer (some ⟨ab,0,none⟩),.int .u64 150] 151)).alloc ai (.cells #[.pointer (some ⟨b,0,none⟩)] 90);clear TD IB;go_enter func73,ntmps73;go_wp2;refine jW 3 ?_;rw[f_]
 go_wp2_with(first|(go_at_call 180;with_reducible refine K0.mono ?_;rintro r w' ⟨rfl,tH⟩;obtain rfl:=tH.symm)|(go_at_call 180;with_reducible refine K1.mono ?_;rintro r w' ⟨rfl,tH⟩;obtain rfl:=tH.symm))
 rw[f_]
 go_wp2_with(first|(go_at_call 180;with_reducible refine K0.mono ?_;rintro r w' ⟨rfl,tH⟩;obtain rfl:=tH.symm)|(go_at_call 180;with_reducible refine K1.mono ?_;rintro r w' ⟨rfl,tH⟩;obtain rfl:=tH.symm))
 rw[f_]
 go_wp2_with(first|(go_at_call 180;with_reducible refine K0.mono ?_;rintro r w' ⟨rfl,tH⟩;obtain rfl:=tH.symm)|(go_at_call 180;with_reducible refine K1.mono ?_;rintro r w' ⟨rfl,tH⟩;obtain rfl:=tH.symm))
 exact awV
theorem sG.later{w w':World}{S:Nat->Prop}(hb:ru w.heap.size S w w')(hS:∀k (cs:List Value) t,qf w k cs t->t=94\/t=139->¬S k):∀{d:Nat}{v:Value}{e p:Nat},sG w d v e p->sG w' d v e p
 |0,_,_,_,⟨b,e1,h1⟩=>⟨b,e1,h1.later hb h1.lt (hS b _ _ h1 (.inl rfl))⟩
 |_+1,_,_,_,⟨b,s,c,e1,h1,h2⟩=>⟨b,s,c,e1,h1.later hb h1.lt (hS b _ _ h1 (.inr rfl)),sG.later hb hS h2⟩
theorem sG.below{w w':World}(hb:Below w.heap.size w w'){d:Nat}{v:Value}{e p:Nat}(h:sG w d v e p):sG w' d v e p:=sG.later (S:=λ_=>False) (.qm hb) (λ_ _ _ _ _=>id) h
def CW(w:World):Prop:=w.cell? ⟨1,0,none⟩=some (.iface 191 (.agg #[.pointer (some ⟨7,59,none⟩)]))
theorem CW.below{w w':World}{B:Nat}(h:CW w)(hb:Below B w w')(hB:1<B):CW w':=(hb.cell (p:=⟨1,0,none⟩) hB).trans h
theorem ado(w:World):(callFunc 174 #[.pointer (some ⟨7,92,none⟩)]).run prog w=.ok (.value (.int .u8 22)) w:=ag
theorem agd(w:World):(callFunc 174 #[.pointer (some ⟨7,90,none⟩)]).run prog w=.ok (.value (.int .u8 22)) w:=ag
def UL(w:World)(tb e p:Nat)(r:Ending)(w':World):Prop:=r=.returned (.bool true)/\∃b,w'.cell? ⟨tb,0,none⟩=some (.pointer (some ⟨b,0,none⟩))/\qf w' b [.int .i64 (e:Int),.int .i64 (p:Int)] 94/\ru w.heap.size (λk=>k=tb) w w'
theorem qf.apart{w:World}{b b':Nat}{cs cs':List Value}{t t':TypeId}(h:qf w b cs t)(h':qf w b' cs' t')(hne:t≠t'):b≠b':=by rintro rfl;unfold qf at h h';rw[h]at h';cases h';exact hne rfl
theorem ai5(d:Nat)(hd:d<=2)(v:Value)(e p ab tb:Nat)(w:World)(h:sG w d v e p)(ha:w.cell? ⟨ab,0,none⟩=some (.pointer (some ⟨tb,0,none⟩)))(ht:qf w tb [.pointer none] 90):
  Calls prog 73 #[v,.iface 92 (.pointer (some ⟨tb,0,none⟩)),.agg #[.pointer (some ⟨7,92,none⟩),.pointer (some ⟨ab,0,none⟩),.int .u64 150],.iface 191 (.agg #[.pointer (some ⟨7,90,none⟩)])] w λr w'=>UL w tb e p r w':=by
 match d,hd,h with
 |0,_,⟨b,e1,h1⟩=>subst e1;exact(as0 b ab tb w ha ht).mono λr w' x=>⟨x.1,b,x.2.1,h1.later x.2.2 h1.lt (qf.apart h1 ht au),x.2.2⟩
 |1,_,⟨b0,s0,c,e1,h1,b,e2,h2⟩=>subst e1 e2;exact(as1 b0 b ab tb w s0 h1 ha ht).mono λr w' x=>⟨x.1,b,x.2.1,h2.later x.2.2 h2.lt (qf.apart h2 ht au),x.2.2⟩
 |2,_,⟨b0,s0,c,e1,h1,b1,s1,c1,e2,h2,b,e3,h3⟩=>subst e1 e2 e3;exact(as2 b0 b1 b ab tb w s0 s1 h1 h2 ha ht).mono λr w' x=>⟨x.1,b,x.2.1,h3.later x.2.2 h3.lt (qf.apart h3 ht au),x.2.2⟩
theorem ai6(d:Nat)(hd:d<=2)(v:Value)(e p tb:Nat)(w:World)(h:sG w d v e p)(ht:qf w tb [.pointer none] 90)(hE:CW w):
  Calls prog 40 #[v,.iface 92 (.pointer (some ⟨tb,0,none⟩))] w λr w'=>UL w tb e p r w':=by
 have f1:=Wi;have f2:=adl;have f3:=ado;have f4:=agd;have f5:=adm;have f6:=UK;have Yp:=ht.lt;have hg:=rM hE;simp only at hg;have t_:Below w.heap.size w ((w.alloc (.cells #[.pointer (some ⟨tb,0,none⟩)] 92)).alloc (.cells #[.pointer (some ⟨7,92,none⟩),.pointer (some ⟨w.heap.size,0,none⟩),.int .u64 150] 151)):=((aA w.heap.size w).alloc (ak _) _).alloc ai _
 have hc1:((w.alloc (.cells #[.pointer (some ⟨tb,0,none⟩)] 92)).alloc (.cells #[.pointer (some ⟨7,92,none⟩),.pointer (some ⟨w.heap.size,0,none⟩),.int .u64 150] 151)).cell? ⟨w.heap.size,0,none⟩=some (.pointer (some ⟨tb,0,none⟩)):=by rw[ku _ _ ⟨w.heap.size,0,none⟩ ai];exact(qf.made w [.pointer (some ⟨tb,0,none⟩)] 92).cell (i:=0) rfl
 have n1:=al7 ⟨w.heap.size,0,none⟩ ⟨tb,0,none⟩ _ hc1;have hE1:=hE.below t_ hg;unfold CW at hE1;have K:=ai5 d hd v e p w.heap.size tb _ (h.below t_) hc1 (ht.later (S:=λ_=>False) (.qm t_) Yp id);obtain⟨t,x,rfl⟩:=h.iface
 have K2:Calls prog 73 _ _ (λr w'=>UL w tb e p r w'):=K.mono (by
  rintro r w' ⟨h1,b,h2,h3,h4⟩;exact⟨h1,b,h2,h3,(ru.qm t_).trans (h4.mono az (λ_ x=>x))⟩)
 clear hE h ht K;unfold UL at K2;go_enter func40,ntmps40
 go_wp2_with(first|(go_at_call 73;refine K2.mono ?_;rintro r w' ⟨rfl,h2⟩))
 go_ret;exact⟨rfl,h2⟩
theorem aoH(x:Value)(w:World):
  Calls prog 40 #[.nilIface,x] w λr w'=>r=.returned (.bool false)/\w'=w:=by
 go_enter func40,ntmps40;exact awx
theorem MF(w:World):
  Calls prog 20 #[.nilIface] w λr w'=>r=.returned (.tuple #[.int .i64 0,.int .i64 0])/\Below w.heap.size w w':=by
 have hB:=(aA w.heap.size w).alloc (ak _) (.cells #[.pointer none] 90);go_enter func20,ntmps20
 go_wp2_with(first|(go_at_call 40;refine(aoH _ _).mono ?_;rintro r w' ⟨rfl,tH⟩;obtain rfl:=tH.symm))
 go_ret2;exact⟨rfl,hB⟩
theorem GL(d:Nat)(hd:d<=2)(v:Value)(e p:Nat)(w:World)(h:sG w d v e p)(hE:CW w):
  Calls prog 20 #[v] w λr w'=>r=.returned (.tuple #[.int .i64 (e:Int),.int .i64 (p:Int)])/\Below w.heap.size w w':=by
 have hB:=(aA w.heap.size w).alloc (ak _) (.cells #[.pointer none] 90);have K:=ai6 d hd v e p w.heap.size _ (h.below hB) (qf.made w [.pointer none] 90) (hE.below hB (rM hE));unfold UL at K;obtain⟨t,x,rfl⟩:=h.iface;clear h hE;go_enter func20,ntmps20
 go_wp2_with(first|(go_at_call 40;refine K.mono ?_;rintro r w1 ⟨rfl,b,hc,hr,hb⟩;have c0:=hr.cell (i:=0) rfl;have c1:=hr.cell (i:=1) rfl))
 have hBz:Below w.heap.size w w1:=(ru.qm hB|>.trans (hb.mono ai (λ_ x=>x))).below (λk hk x=>ae);clear K hb hr
 go_big_quiet (fail)
 go_wp2;go_ret2;exact⟨rfl,hBz.trans ⟨rfl,rfl,rfl,ak _,λ_ _=>rfl⟩⟩

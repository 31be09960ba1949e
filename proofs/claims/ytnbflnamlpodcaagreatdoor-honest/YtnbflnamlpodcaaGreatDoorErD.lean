import Derived.Test.YtnbflnamlpodcaaGreatDoorTailQ
set_option maxHeartbeats 4000000
set_option maxRecDepth 100000
namespace Go.Proofs.Y
open Go.Proofs.Tryz
open Go.RowKit Go.Extern.Stop Go.Stop Go.Extern
theorem Xe(t:Addr)(w:ah):(callFunc 70 #[.iface 92 (.pointer (some t))]).run prog w
  =.ok (.value (.agg #[.pointer (some ⟨7,92,none⟩),.pointer (some ⟨w.heap.size,0,none⟩),.int .u64 150])) (w.alloc (.cells #[.pointer (some t)] 92)):=aj
theorem Ic(t:Addr)(w:ah):(callFunc 70 #[.iface 90 (.pointer (some t))]).run prog w
  =.ok (.value (.agg #[.pointer (some ⟨7,90,none⟩),.pointer (some ⟨w.heap.size,0,none⟩),.int .u64 150])) (w.alloc (.cells #[.pointer (some t)] 90)):=aj
theorem adP(a:Addr)(w:ah):(callFunc 71 #[.agg #[.pointer (some ⟨7,92,none⟩),.pointer (some a),.int .u64 150]]).run prog w
  =.ok (.value (.iface 191 (.agg #[.pointer (some ⟨7,92,none⟩)]))) w:=aj
theorem adQ(w:ah):(callFunc 187 #[.agg #[.pointer (some ⟨7,92,none⟩)]]).run prog w=.ok (.value (.iface 191 (.agg #[.pointer (some ⟨7,90,none⟩)]))) w:=aj
theorem Vl(w:ah):(callFunc 188 #[.agg #[.pointer (some ⟨7,90,none⟩)],.iface 191 (.agg #[.pointer (some ⟨7,59,none⟩)])]).run prog w=.ok (.value (.bool true)) w:=aj
theorem JJ(v:ai)(w:ah):(callFunc 101 #[.iface 90 v]).run prog w=.ok (.value (.iface 191 (.agg #[.pointer (some ⟨7,90,none⟩)]))) w:=aj
theorem JK(v:ai)(w:ah):(callFunc 101 #[.iface 137 v]).run prog w=.ok (.value (.iface 191 (.agg #[.pointer (some ⟨7,137,none⟩)]))) w:=aj
theorem JL(w:ah):(callFunc 185 #[.agg #[.pointer (some ⟨7,90,none⟩)],.iface 191 (.agg #[.pointer (some ⟨7,90,none⟩)])]).run prog w=.ok (.value (.bool true)) w:=aj
theorem JM(w:ah):(callFunc 185 #[.agg #[.pointer (some ⟨7,137,none⟩)],.iface 191 (.agg #[.pointer (some ⟨7,90,none⟩)])]).run prog w=.ok (.value (.bool false)) w:=aj
theorem ajD(v:ai)(xT:aF)(w:ah):(Instr.typeAssert (.iface 137 v) xT 195 true).run prog w=.ok (.tuple #[.nilIface,.bool false]) w:=run_typeAssert_lacksB underlying195 aj aj v xT w
theorem afr(a:Addr)(w:ah):(ReflectliteValue.parts (.agg #[.pointer (some ⟨7,92,none⟩),.pointer (some a),.int .u64 150])).run prog w=.ok (some (92,a,150)) w:=aj
theorem amK(a:Addr)(w:ah):(ReflectliteValue.parts (.agg #[.pointer (some ⟨7,90,none⟩),.pointer (some a),.int .u64 406])).run prog w=.ok (some (90,a,406)) w:=aj
theorem apw(a:Addr)(w:ah):(ReflectliteValue.parts (.agg #[.pointer (some ⟨7,90,none⟩),.pointer (some a),.int .u64 150])).run prog w=.ok (some (90,a,150)) w:=aj
theorem amL(w:ah):(Rtype.directlyAssignable 90 90).run prog w=.ok true w:=aj
theorem ajE(w:ah):(Rtype.elem? 92).run prog w=.ok (some 90) w:=aj
theorem mkP(p:Addr)(w:ah):(ReflectliteValue.mk 90 p ReflectliteValue.flagAddr).run prog w=.ok (.agg #[.pointer (some ⟨7,90,none⟩),.pointer (some p),.int .u64 406]) w:=aj
theorem methodAt(z:Sem ai)(f:aF->Addr->Nat->Nat->Sem ai)(v:ai):ReflectliteValue.method z f #[v]=(ReflectliteValue.parts v>>=λr=>match r with|none=>z|some (t,a,fl)=>f t a fl (fl%32)):=rfl
theorem amM(a p:Addr)(W:ah)(ha:W.cell? a=some (.pointer (some p))):
  (callFunc 72 #[.agg #[.pointer (some ⟨7,92,none⟩),.pointer (some a),.int .u64 150]]).run prog W=.ok (.value (.bool false)) W:=by
 have h:=@run_callFunc_extern prog 72 _ (ReflectliteValue.method (ReflectliteValue.valueError "reflectlite.Value.IsNil" 0) ReflectliteValue.isNil) func72 aj aj aj aj;rw[h];rw[methodAt];simp[Sem.run_bind,afr,Result.andThen,ReflectliteValue.isNil,loadVar,isAgg,underlying,underlying92,ha]
theorem adR(a p:Addr)(W:ah)(ha:W.cell? a=some (.pointer (some p))):
  (callFunc 112 #[.agg #[.pointer (some ⟨7,92,none⟩),.pointer (some a),.int .u64 150]]).run prog W
   =.ok (.value (.agg #[.pointer (some ⟨7,90,none⟩),.pointer (some p),.int .u64 406])) W:=by
 have h:=@run_callFunc_extern prog 112 _ (ReflectliteValue.method (ReflectliteValue.valueError "reflectlite.Value.Elem" 0) ReflectliteValue.elem) func112 aj aj aj aj;rw[h];rw[methodAt];simp[Sem.run_bind,afr,Result.andThen,ReflectliteValue.elem,loadVar,isAgg,underlying,underlying92,ha,ajE,mkP]
theorem apx(ta b e:Addr)(old:ai)(W:ah)(hb:W.cell? b=some (.pointer (some e)))(ht:W.cell? ta=some old)(hf:W.frozen? ta=false):
  (callFunc 113 #[.agg #[.pointer (some ⟨7,90,none⟩),.pointer (some ta),.int .u64 406],.agg #[.pointer (some ⟨7,90,none⟩),.pointer (some b),.int .u64 150]]).run prog W
   =.ok (.value (.tuple #[])) (W.setCell ta (.pointer (some e))):=by
 have h:=@run_callFunc_extern prog 113 _ ReflectliteValue.set func113 aj aj aj aj;rw[h];have hs:∀v x,ReflectliteValue.set #[v,x]=(ReflectliteValue.parts v>>=λp=>ReflectliteValue.parts x>>=λq=>_):=λv x=>rfl
 rw[hs];simp[Sem.run_bind,amK,apw,Result.andThen,ReflectliteValue.flagAddr,loadVar,isAgg,underlying,underlying90,hb,amL,storeVar,Value.cells,storeCells,Addr.add];rw[run_store prog W ta _ _ aI];simp[ht,hf]
theorem as0(b:Nat)(ab tb:Nat)(w:ah)(ha:w.cell? ⟨ab,0,none⟩=some (.pointer (some ⟨tb,0,none⟩)))(ht:ql w tb [.pointer none] 90):
  Calls prog 73 #[.iface 90 (.pointer (some ⟨b,0,none⟩)),.iface 92 (.pointer (some ⟨tb,0,none⟩)),.agg #[.pointer (some ⟨7,92,none⟩),.pointer (some ⟨ab,0,none⟩),.int .u64 150],.iface 191 (.agg #[.pointer (some ⟨7,90,none⟩)])] w λr w'=>r=.returned (.bool true)/\w'.cell? ⟨tb,0,none⟩=some (.pointer (some ⟨b,0,none⟩))/\rQ w.heap.size (λk=>k=tb) w w':=by
 have f1:=JJ;have f2:=JK;have f3:=JL;have f4:=JM;have f5:=Ic;have f6:=ajD;have f7:=Fj;have hal:=rG ha;have Y9:=ht.lt;have el:=adR ⟨ab,0,none⟩ ⟨tb,0,none⟩ (w.alloc (.cells #[.pointer (some ⟨7,92,none⟩),.pointer (some ⟨ab,0,none⟩),.int .u64 150] 151)) (by rw[lJ _ _ ⟨ab,0,none⟩ hal];exact ha);have Tn:ql ((w.alloc (.cells #[.pointer (some ⟨7,92,none⟩),.pointer (some ⟨ab,0,none⟩),.int .u64 150] 151)).alloc (.cells #[.pointer (some ⟨b,0,none⟩)] 90)) tb [.pointer none] 90:=(ht.later (S:=λ_=>False) (rQ.alloc (rQ.refl _ _ _) (az _) _) Y9 id).later (S:=λ_=>False) (rQ.alloc (rQ.refl _ _ _) (az _) _) aS id;have st:=apx ⟨tb,0,none⟩ ⟨w.heap.size+1,0,none⟩ ⟨b,0,none⟩ (.pointer none) ((w.alloc (.cells #[.pointer (some ⟨7,92,none⟩),.pointer (some ⟨ab,0,none⟩),.int .u64 150] 151)).alloc (.cells #[.pointer (some ⟨b,0,none⟩)] 90)) (by rw[World.cell?_alloc_at _ _ _ _ ax];rfl) (Tn.cell rfl) (Tn.frozen 0);have Jf:=ql.set ht 0 (.pointer (some ⟨b,0,none⟩));have DR:=((Jf.later (S:=λ_=>False) (rQ.alloc (rQ.refl _ _ _) (az _) (.cells #[.pointer (some ⟨7,92,none⟩),.pointer (some ⟨ab,0,none⟩),.int .u64 150] 151)) Jf.lt id).later (S:=λ_=>False) (rQ.alloc (rQ.refl _ _ _) (az _) (.cells #[.pointer (some ⟨b,0,none⟩)] 90)) aS id).cell (i:=0) rfl;have ajF:=(((rQ.refl w.heap.size (λk=>k=tb) w).setCell (p:=⟨tb,0,none⟩) (.inr rfl) (.pointer (some ⟨b,0,none⟩))).alloc ax (.cells #[.pointer (some ⟨7,92,none⟩),.pointer (some ⟨ab,0,none⟩),.int .u64 150] 151)).alloc ax (.cells #[.pointer (some ⟨b,0,none⟩)] 90);clear Tn Jf;go_enter func73,ntmps73;go_wp2;refine lq 1 ?_;rw[iC]
 go_wp2_with(first|fail)
 exact ayW
theorem as1(b0 b:Nat)(ab tb:Nat)(w:ah)(s0:ByteArray)(h0:ql w b0 [.string s0,.iface 90 (.pointer (some ⟨b,0,none⟩))] 139)(ha:w.cell? ⟨ab,0,none⟩=some (.pointer (some ⟨tb,0,none⟩)))(ht:ql w tb [.pointer none] 90):
  Calls prog 73 #[.iface 137 (.pointer (some ⟨b0,0,none⟩)),.iface 92 (.pointer (some ⟨tb,0,none⟩)),.agg #[.pointer (some ⟨7,92,none⟩),.pointer (some ⟨ab,0,none⟩),.int .u64 150],.iface 191 (.agg #[.pointer (some ⟨7,90,none⟩)])] w λr w'=>r=.returned (.bool true)/\w'.cell? ⟨tb,0,none⟩=some (.pointer (some ⟨b,0,none⟩))/\rQ w.heap.size (λk=>k=tb) w w':=by
 have f1:=JJ;have f2:=JK;have f3:=JL;have f4:=JM;have f5:=Ic;have f6:=ajD;have f7:=Fj;have K0:=BN b0 s0 _ (w.alloc (.cells #[.pointer (some ⟨7,92,none⟩),.pointer (some ⟨ab,0,none⟩),.int .u64 150] 151)) (h0.later (S:=λ_=>False) (rQ.alloc (rQ.refl _ _ _) (az _) _) h0.lt id);have hal:=rG ha;have Y9:=ht.lt;have el:=adR ⟨ab,0,none⟩ ⟨tb,0,none⟩ (w.alloc (.cells #[.pointer (some ⟨7,92,none⟩),.pointer (some ⟨ab,0,none⟩),.int .u64 150] 151)) (by rw[lJ _ _ ⟨ab,0,none⟩ hal];exact ha);have Tn:ql ((w.alloc (.cells #[.pointer (some ⟨7,92,none⟩),.pointer (some ⟨ab,0,none⟩),.int .u64 150] 151)).alloc (.cells #[.pointer (some ⟨b,0,none⟩)] 90)) tb [.pointer none] 90:=(ht.later (S:=λ_=>False) (rQ.alloc (rQ.refl _ _ _) (az _) _) Y9 id).later (S:=λ_=>False) (rQ.alloc (rQ.refl _ _ _) (az _) _) aS id;have st:=apx ⟨tb,0,none⟩ ⟨w.heap.size+1,0,none⟩ ⟨b,0,none⟩ (.pointer none) ((w.alloc (.cells #[.pointer (some ⟨7,92,none⟩),.pointer (some ⟨ab,0,none⟩),.int .u64 150] 151)).alloc (.cells #[.pointer (some ⟨b,0,none⟩)] 90)) (by rw[World.cell?_alloc_at _ _ _ _ ax];rfl) (Tn.cell rfl) (Tn.frozen 0);have Jf:=ql.set ht 0 (.pointer (some ⟨b,0,none⟩));have DR:=((Jf.later (S:=λ_=>False) (rQ.alloc (rQ.refl _ _ _) (az _) (.cells #[.pointer (some ⟨7,92,none⟩),.pointer (some ⟨ab,0,none⟩),.int .u64 150] 151)) Jf.lt id).later (S:=λ_=>False) (rQ.alloc (rQ.refl _ _ _) (az _) (.cells #[.pointer (some ⟨b,0,none⟩)] 90)) aS id).cell (i:=0) rfl;have ajF:=(((rQ.refl w.heap.size (λk=>k=tb) w).setCell (p:=⟨tb,0,none⟩) (.inr rfl) (.pointer (some ⟨b,0,none⟩))).alloc ax (.cells #[.pointer (some ⟨7,92,none⟩),.pointer (some ⟨ab,0,none⟩),.int .u64 150] 151)).alloc ax (.cells #[.pointer (some ⟨b,0,none⟩)] 90);clear Tn Jf;go_enter func73,ntmps73;go_wp2;refine lq 2 ?_;rw[iC]
 go_wp2_with(first|(go_at_call 180;with_reducible refine K0.mono ?_;rintro r w' ⟨rfl,uf⟩;obtain rfl:=uf.symm))
 rw[iC]
 go_wp2_with(first|(go_at_call 180;with_reducible refine K0.mono ?_;rintro r w' ⟨rfl,uf⟩;obtain rfl:=uf.symm))
 exact ayW
theorem as2(b0 b1 b:Nat)(ab tb:Nat)(w:ah)(s0 s1:ByteArray)(h0:ql w b0 [.string s0,.iface 137 (.pointer (some ⟨b1,0,none⟩))] 139)(h1:ql w b1 [.string s1,.iface 90 (.pointer (some ⟨b,0,none⟩))] 139)(ha:w.cell? ⟨ab,0,none⟩=some (.pointer (some ⟨tb,0,none⟩)))(ht:ql w tb [.pointer none] 90):
  Calls prog 73 #[.iface 137 (.pointer (some ⟨b0,0,none⟩)),.iface 92 (.pointer (some ⟨tb,0,none⟩)),.agg #[.pointer (some ⟨7,92,none⟩),.pointer (some ⟨ab,0,none⟩),.int .u64 150],.iface 191 (.agg #[.pointer (some ⟨7,90,none⟩)])] w λr w'=>r=.returned (.bool true)/\w'.cell? ⟨tb,0,none⟩=some (.pointer (some ⟨b,0,none⟩))/\rQ w.heap.size (λk=>k=tb) w w':=by
 have f1:=JJ;have f2:=JK;have f3:=JL;have f4:=JM;have f5:=Ic;have f6:=ajD;have f7:=Fj;have K0:=BN b0 s0 _ (w.alloc (.cells #[.pointer (some ⟨7,92,none⟩),.pointer (some ⟨ab,0,none⟩),.int .u64 150] 151)) (h0.later (S:=λ_=>False) (rQ.alloc (rQ.refl _ _ _) (az _) _) h0.lt id);have K1:=BN b1 s1 _ (w.alloc (.cells #[.pointer (some ⟨7,92,none⟩),.pointer (some ⟨ab,0,none⟩),.int .u64 150] 151)) (h1.later (S:=λ_=>False) (rQ.alloc (rQ.refl _ _ _) (az _) _) h1.lt id);have hal:=rG ha;have Y9:=ht.lt;have el:=adR ⟨ab,0,none⟩ ⟨tb,0,none⟩ (w.alloc (.cells #[.pointer (some ⟨7,92,none⟩),.pointer (some ⟨ab,0,none⟩),.int .u64 150] 151)) (by rw[lJ _ _ ⟨ab,0,none⟩ hal];exact ha);have Tn:ql ((w.alloc (.cells #[.pointer (some ⟨7,92,none⟩),.pointer (some ⟨ab,0,none⟩),.int .u64 150] 151)).alloc (.cells #[.pointer (some ⟨b,0,none⟩)] 90)) tb [.pointer none] 90:=(ht.later (S:=λ_=>False) (rQ.alloc (rQ.refl _ _ _) (az _) _) Y9 id).later (S:=λ_=>False) (rQ.alloc (rQ.refl _ _ _) (az _) _) aS id;have st:=apx ⟨tb,0,none⟩ ⟨w.heap.size+1,0,none⟩ ⟨b,0,none⟩ (.pointer none) ((w.alloc (.cells #[.pointer (some ⟨7,92,none⟩),.pointer (some ⟨ab,0,none⟩),.int .u64 150] 151)).alloc (.cells #[.pointer (some ⟨b,0,none⟩)] 90)) (by rw[World.cell?_alloc_at _ _ _ _ ax];rfl) (Tn.cell rfl) (Tn.frozen 0);have Jf:=ql.set ht 0 (.pointer (some ⟨b,0,none⟩));have DR:=((Jf.later (S:=λ_=>False) (rQ.alloc (rQ.refl _ _ _) (az _) (.cells #[.pointer (some ⟨7,92,none⟩),.pointer (some ⟨ab,0,none⟩),.int .u64 150] 151)) Jf.lt id).later (S:=λ_=>False) (rQ.alloc (rQ.refl _ _ _) (az _) (.cells #[.pointer (some ⟨b,0,none⟩)] 90)) aS id).cell (i:=0) rfl;have ajF:=(((rQ.refl w.heap.size (λk=>k=tb) w).setCell (p:=⟨tb,0,none⟩) (.inr rfl) (.pointer (some ⟨b,0,none⟩))).alloc ax (.cells #[.pointer (some ⟨7,92,none⟩),.pointer (some ⟨ab,0,none⟩),.int .u64 150] 151)).alloc ax (.cells #[.pointer (some ⟨b,0,none⟩)] 90);clear Tn Jf;go_enter func73,ntmps73;go_wp2;refine lq 3 ?_;rw[iC]
 go_wp2_with(first|(go_at_call 180;with_reducible refine K0.mono ?_;rintro r w' ⟨rfl,uf⟩;obtain rfl:=uf.symm)|(go_at_call 180;with_reducible refine K1.mono ?_;rintro r w' ⟨rfl,uf⟩;obtain rfl:=uf.symm))
 rw[iC]
 go_wp2_with(first|(go_at_call 180;with_reducible refine K0.mono ?_;rintro r w' ⟨rfl,uf⟩;obtain rfl:=uf.symm)|(go_at_call 180;with_reducible refine K1.mono ?_;rintro r w' ⟨rfl,uf⟩;obtain rfl:=uf.symm))
 rw[iC]
 go_wp2_with(first|(go_at_call 180;with_reducible refine K0.mono ?_;rintro r w' ⟨rfl,uf⟩;obtain rfl:=uf.symm)|(go_at_call 180;with_reducible refine K1.mono ?_;rintro r w' ⟨rfl,uf⟩;obtain rfl:=uf.symm))
 exact ayW
theorem sV.later{w w':ah}{S:Nat->Prop}(hb:rQ w.heap.size S w w')(hS:∀k (cs:aK) t,ql w k cs t->t=94\/t=139->¬S k):∀{d:Nat}{v:ai}{e p:Nat},sV w d v e p->sV w' d v e p
 |0,_,_,_,⟨b,e1,h1⟩=>⟨b,e1,h1.later hb h1.lt (hS b _ _ h1 (.inl rfl))⟩
 |_+1,_,_,_,⟨b,s,c,e1,h1,h2⟩=>⟨b,s,c,e1,h1.later hb h1.lt (hS b _ _ h1 (.inr rfl)),sV.later hb hS h2⟩
theorem sV.below{w w':ah}(hb:Below w.heap.size w w'){d:Nat}{v:ai}{e p:Nat}(h:sV w d v e p):sV w' d v e p:=sV.later (S:=λ_=>False) (.qF hb) (λ_ _ _ _ _=>id) h
def Dw(w:ah):Prop:=w.cell? ⟨1,0,none⟩=some (.iface 191 (.agg #[.pointer (some ⟨7,59,none⟩)]))
theorem Dw.below{w w':ah}{B:Nat}(h:Dw w)(hb:Below B w w')(hB:1<B):Dw w':=(hb.cell (p:=⟨1,0,none⟩) hB).trans h
theorem adS(w:ah):(callFunc 174 #[.pointer (some ⟨7,92,none⟩)]).run prog w=.ok (.value (.int .u8 22)) w:=aj
theorem agO(w:ah):(callFunc 174 #[.pointer (some ⟨7,90,none⟩)]).run prog w=.ok (.value (.int .u8 22)) w:=aj
def Vm(w:ah)(tb e p:Nat)(r:Ending)(w':ah):Prop:=r=.returned (.bool true)/\∃b,w'.cell? ⟨tb,0,none⟩=some (.pointer (some ⟨b,0,none⟩))/\ql w' b [.int .i64 (e:Int),.int .i64 (p:Int)] 94/\rQ w.heap.size (λk=>k=tb) w w'
theorem ql.apart{w:ah}{b b':Nat}{cs cs':aK}{t t':aF}(h:ql w b cs t)(h':ql w b' cs' t')(hne:t≠t'):b≠b':=by rintro rfl;unfold ql at h h';rw[h]at h';cases h';exact hne rfl
theorem ajG(d:Nat)(hd:d<=2)(v:ai)(e p ab tb:Nat)(w:ah)(h:sV w d v e p)(ha:w.cell? ⟨ab,0,none⟩=some (.pointer (some ⟨tb,0,none⟩)))(ht:ql w tb [.pointer none] 90):
  Calls prog 73 #[v,.iface 92 (.pointer (some ⟨tb,0,none⟩)),.agg #[.pointer (some ⟨7,92,none⟩),.pointer (some ⟨ab,0,none⟩),.int .u64 150],.iface 191 (.agg #[.pointer (some ⟨7,90,none⟩)])] w λr w'=>Vm w tb e p r w':=by
 match d,hd,h with
 |0,_,⟨b,e1,h1⟩=>subst e1;exact(as0 b ab tb w ha ht).mono λr w' x=>⟨x.1,b,x.2.1,h1.later x.2.2 h1.lt (ql.apart h1 ht aC),x.2.2⟩
 |1,_,⟨b0,s0,c,e1,h1,b,e2,h2⟩=>subst e1 e2;exact(as1 b0 b ab tb w s0 h1 ha ht).mono λr w' x=>⟨x.1,b,x.2.1,h2.later x.2.2 h2.lt (ql.apart h2 ht aC),x.2.2⟩
 |2,_,⟨b0,s0,c,e1,h1,b1,s1,c1,e2,h2,b,e3,h3⟩=>subst e1 e2 e3;exact(as2 b0 b1 b ab tb w s0 s1 h1 h2 ha ht).mono λr w' x=>⟨x.1,b,x.2.1,h3.later x.2.2 h3.lt (ql.apart h3 ht aC),x.2.2⟩
theorem ajH(d:Nat)(hd:d<=2)(v:ai)(e p tb:Nat)(w:ah)(h:sV w d v e p)(ht:ql w tb [.pointer none] 90)(hE:Dw w):
  Calls prog 40 #[v,.iface 92 (.pointer (some ⟨tb,0,none⟩))] w λr w'=>Vm w tb e p r w':=by
 have f1:=Xe;have f2:=adP;have f3:=adS;have f4:=agO;have f5:=adQ;have f6:=Vl;have Y9:=ht.lt;have hg:=rG hE;simp only at hg;have uu:Below w.heap.size w ((w.alloc (.cells #[.pointer (some ⟨tb,0,none⟩)] 92)).alloc (.cells #[.pointer (some ⟨7,92,none⟩),.pointer (some ⟨w.heap.size,0,none⟩),.int .u64 150] 151)):=((aT w.heap.size w).alloc (az _) _).alloc ax _
 have hc1:((w.alloc (.cells #[.pointer (some ⟨tb,0,none⟩)] 92)).alloc (.cells #[.pointer (some ⟨7,92,none⟩),.pointer (some ⟨w.heap.size,0,none⟩),.int .u64 150] 151)).cell? ⟨w.heap.size,0,none⟩=some (.pointer (some ⟨tb,0,none⟩)):=by rw[lJ _ _ ⟨w.heap.size,0,none⟩ ax];exact(ql.made w [.pointer (some ⟨tb,0,none⟩)] 92).cell (i:=0) rfl
 have n1:=amM ⟨w.heap.size,0,none⟩ ⟨tb,0,none⟩ _ hc1;have hE1:=hE.below uu hg;unfold Dw at hE1;have K:=ajG d hd v e p w.heap.size tb _ (h.below uu) hc1 (ht.later (S:=λ_=>False) (.qF uu) Y9 id);obtain⟨t,x,rfl⟩:=h.iface
 have K2:Calls prog 73 _ _ (λr w'=>Vm w tb e p r w'):=K.mono (by
  rintro r w' ⟨h1,b,h2,h3,h4⟩;exact⟨h1,b,h2,h3,(rQ.qF uu).trans (h4.mono aS (λ_ x=>x))⟩)
 clear hE h ht K;unfold Vm at K2;go_enter func40,ntmps40
 go_wp2_with(first|(go_at_call 73;refine K2.mono ?_;rintro r w' ⟨rfl,h2⟩))
 go_ret;exact⟨rfl,h2⟩
theorem apy(x:ai)(w:ah):
  Calls prog 40 #[.nilIface,x] w λr w'=>r=.returned (.bool false)/\w'=w:=by
 go_enter func40,ntmps40;exact ayj
theorem Ny(w:ah):
  Calls prog 20 #[.nilIface] w λr w'=>r=.returned (.tuple #[.int .i64 0,.int .i64 0])/\Below w.heap.size w w':=by
 have hB:=(aT w.heap.size w).alloc (az _) (.cells #[.pointer none] 90);go_enter func20,ntmps20
 go_wp2_with(first|(go_at_call 40;refine(apy _ _).mono ?_;rintro r w' ⟨rfl,uf⟩;obtain rfl:=uf.symm))
 go_ret2;exact⟨rfl,hB⟩
theorem Ht(d:Nat)(hd:d<=2)(v:ai)(e p:Nat)(w:ah)(h:sV w d v e p)(hE:Dw w):
  Calls prog 20 #[v] w λr w'=>r=.returned (.tuple #[.int .i64 (e:Int),.int .i64 (p:Int)])/\Below w.heap.size w w':=by
 have hB:=(aT w.heap.size w).alloc (az _) (.cells #[.pointer none] 90);have K:=ajH d hd v e p w.heap.size _ (h.below hB) (ql.made w [.pointer none] 90) (hE.below hB (rG hE));unfold Vm at K;obtain⟨t,x,rfl⟩:=h.iface;clear h hE;go_enter func20,ntmps20
 go_wp2_with(first|(go_at_call 40;refine K.mono ?_;rintro r w1 ⟨rfl,b,hc,hr,hb⟩;have c0:=hr.cell (i:=0) rfl;have c1:=hr.cell (i:=1) rfl))
 have hBz:Below w.heap.size w w1:=(rQ.qF hB|>.trans (hb.mono ax (λ_ x=>x))).below (λk hk x=>ag);clear K hb hr
 go_big_quiet (fail)
 go_wp2;go_ret2;exact⟨rfl,hBz.trans ⟨rfl,rfl,rfl,az _,λ_ _=>rfl⟩⟩

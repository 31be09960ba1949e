/-
  What errors.Is finds in a fault that is wrapped at most twice.
-/
import Derived.Test.YtkpcmfgeanlcnabGreatDoorSmB
import Derived.WalkKit
import Derived.LaidEql
import Derived.Stop.Asserts
import Derived.RowKitTokens
import Derived.Handy
import Derived.Test.YtkpcmfgeanlcnabGreatDoorScanD
import Derived.BigQuiet
import Derived.Deep.Cut
import Derived.Deep.CutRange
import Derived.Maps.AppendAt
namespace Go.Proofs.YtkpcmfgeanlcnabGreatDoor
open Go.RowKit Go.Extern.Stop Go.Stop Go.Extern
def Chain (w:World):Nat→Value→Nat→Nat→Prop
  | 0,v,e,p=>∃ b,v = .iface 115 (.pointer (some ⟨b,0,none⟩))∧RowAt w b [.int .i64 (e:Int),.int .i64 (p:Int)] 119
  | d+1,v,e,p=>∃ b s c,v = .iface 151 (.pointer (some ⟨b,0,none⟩))∧RowAt w b [.string s,c] 153∧Chain w d c e p
def Early (w:World) (a:Addr):Prop:=w.cell? ⟨0,0,none⟩=some (.iface 251 (.pointer (some a)))
theorem callTypeOf (v:Value) (w:World):(callFunc 69 #[.iface 251 v]).run Tryz.prog w = .ok (.value (.iface 190 (.agg #[.pointer (some ⟨7,251,none⟩)]))) w:=by kernel_rfl
theorem callComparable (w:World):(callFunc 190 #[.agg #[.pointer (some ⟨7,251,none⟩)]]).run Tryz.prog w = .ok (.value (.bool true)) w:=by kernel_rfl
theorem isComp:(Tryz.prog.info? 251).map (·.comparable)=some true:=by kernel_rfl
theorem isSize:(Tryz.prog.info? 271).map (·.size)=some 1:=by kernel_rfl
theorem hasIsF (v:Value) (xT:TypeId) (w:World):(Instr.typeAssert (.iface 115 v) xT 192 true).run Tryz.prog w = .ok (.tuple #[.iface 115 v,.bool true]) w:=run_typeAssert_hasB Tryz.underlying192 (by kernel_rfl) v xT w
theorem noUnwrapF (v:Value) (xT:TypeId) (w:World):(Instr.typeAssert (.iface 115 v) xT 195 true).run Tryz.prog w = .ok (.tuple #[.nilIface,.bool false]) w:=run_typeAssert_lacksB Tryz.underlying195 (by kernel_rfl) (by kernel_rfl) v xT w
theorem noUnwrapsF (v:Value) (xT:TypeId) (w:World):(Instr.typeAssert (.iface 115 v) xT 196 true).run Tryz.prog w = .ok (.tuple #[.nilIface,.bool false]) w:=run_typeAssert_lacksB Tryz.underlying196 (by kernel_rfl) (by kernel_rfl) v xT w
theorem noIsW (v:Value) (xT:TypeId) (w:World):(Instr.typeAssert (.iface 151 v) xT 192 true).run Tryz.prog w = .ok (.tuple #[.nilIface,.bool false]) w:=run_typeAssert_lacksB Tryz.underlying192 (by kernel_rfl) (by kernel_rfl) v xT w
theorem hasUnwrapW (v:Value) (xT:TypeId) (w:World):(Instr.typeAssert (.iface 151 v) xT 195 true).run Tryz.prog w = .ok (.tuple #[.iface 151 v,.bool true]) w:=run_typeAssert_hasB Tryz.underlying195 (by kernel_rfl) v xT w
set_option maxHeartbeats 1000000 in
set_option maxRecDepth 100000 in
theorem faultIs_any (b:Nat) (a:Addr) (e p:Nat) (w:World) (h:RowAt w b [.int .i64 (e:Int),.int .i64 (p:Int)] 119) (hE:Early w a) :
    Calls Tryz.prog 182 #[.pointer (some ⟨b,0,none⟩),.iface 251 (.pointer (some a))] w fun r w'=>r = .returned (.bool (decide (e=4)))∧w' = w:=by
  obtain ⟨i,hi,hcmp⟩:=Option.map_eq_some_iff.1 isComp
  obtain ⟨j,hj,hjs⟩:=Option.map_eq_some_iff.1 isSize
  have heq:=run_eql_iface_ptr_same (P:=Tryz.prog) w a Tryz.underlying70 Tryz.underlying251 hi hcmp hj
  have c0:=h.cell (i:=0) rfl
  unfold Early at hE
  by_cases q:e=4
  · subst q
    go_enter Tryz.func182,Tryz.ntmps182
    go_wp2
    go_ret
    exact ⟨rfl,rfl⟩
  · have q':((e:Int) == 4)=false:=by simp;omega
    have HQ:Hid (decide (e=4)=false):=decide_eq_false q
    clear q
    go_enter Tryz.func182,Tryz.ntmps182
    go_wp2
    go_ret
    exact ⟨ret_bool' (by rw [HQ.out]),rfl⟩
set_option maxHeartbeats 1000000 in
set_option maxRecDepth 100000 in
theorem unwrap_any (b:Nat) (s:ByteArray) (c:Value) (w:World) (h:RowAt w b [.string s,c] 153) :
    Calls Tryz.prog 184 #[.pointer (some ⟨b,0,none⟩)] w fun r w'=>r = .returned c∧w' = w:=by
  have c1:=h.cell (i:=1) rfl
  go_enter Tryz.func184,Tryz.ntmps184
  go_wp2
  go_ret
  exact ⟨rfl,rfl⟩
set_option maxHeartbeats 2000000 in
set_option maxRecDepth 100000 in
theorem is0 (b:Nat) (a:Addr) (e p:Nat) (w:World) (h:RowAt w b [.int .i64 (e:Int),.int .i64 (p:Int)] 119) (hE:Early w a) :
    Calls Tryz.prog 70 #[.iface 115 (.pointer (some ⟨b,0,none⟩)),.iface 251 (.pointer (some a)),.bool true] w fun r w'=>r = .returned (.bool (decide (e=4)))∧w' = w:=by
  have K:=faultIs_any b a e p w h hE
  have i1:=hasIsF
  have i2:=noUnwrapF
  have i3:=noUnwrapsF
  have hty:=run_eql_iface_types (P:=Tryz.prog) 115 251 (.pointer (some ⟨b,0,none⟩)) (.pointer (some a)) Tryz.underlying70 (by decide) w
  cases q:decide (e=4)
  all_goals rw [q] at K
  all_goals
    go_enter Tryz.func70,Tryz.ntmps70
    go_wp2
    refine wp_loop_rounds 1 ?_
    rw [rounds_succ]
    go_wp2_with (first | (go_at_call 182;refine K.mono ?_;rintro r w' ⟨rfl,hw'⟩;obtain rfl:=hw'.symm))
    go_ret
    exact ⟨rfl,rfl⟩
set_option maxHeartbeats 4000000 in
set_option maxRecDepth 100000 in
theorem is1 (b0 b:Nat) (s0:ByteArray) (a:Addr) (e p:Nat) (w:World) (h0:RowAt w b0 [.string s0,.iface 115 (.pointer (some ⟨b,0,none⟩))] 153) (h:RowAt w b [.int .i64 (e:Int),.int .i64 (p:Int)] 119) (hE:Early w a) :
    Calls Tryz.prog 70 #[.iface 151 (.pointer (some ⟨b0,0,none⟩)),.iface 251 (.pointer (some a)),.bool true] w fun r w'=>r = .returned (.bool (decide (e=4)))∧w' = w:=by
  have K:=faultIs_any b a e p w h hE
  have K0:=unwrap_any b0 s0 _ w h0
  have i1:=hasIsF
  have i2:=noUnwrapF
  have i3:=noUnwrapsF
  have i4:=noIsW
  have i5:=hasUnwrapW
  have hty:=run_eql_iface_types (P:=Tryz.prog) 115 251 (.pointer (some ⟨b,0,none⟩)) (.pointer (some a)) Tryz.underlying70 (by decide) w
  have hty0:=run_eql_iface_types (P:=Tryz.prog) 151 251 (.pointer (some ⟨b0,0,none⟩)) (.pointer (some a)) Tryz.underlying70 (by decide) w
  cases q:decide (e=4)
  all_goals rw [q] at K
  all_goals
    go_enter Tryz.func70,Tryz.ntmps70
    go_wp2
    refine wp_loop_rounds 2 ?_
    rw [rounds_succ]
    go_wp2_with (first | (go_at_call 182;refine K.mono ?_;rintro r w' ⟨rfl,hw'⟩;obtain rfl:=hw'.symm) | (go_at_call 184;with_reducible refine K0.mono ?_;rintro r w' ⟨rfl,hw'⟩;obtain rfl:=hw'.symm))
    rw [rounds_succ]
    go_wp2_with (first | (go_at_call 182;refine K.mono ?_;rintro r w' ⟨rfl,hw'⟩;obtain rfl:=hw'.symm) | (go_at_call 184;with_reducible refine K0.mono ?_;rintro r w' ⟨rfl,hw'⟩;obtain rfl:=hw'.symm))
    go_ret
    exact ⟨rfl,rfl⟩
set_option maxHeartbeats 4000000 in
set_option maxRecDepth 100000 in
theorem is2 (b0 b1 b:Nat) (s0 s1:ByteArray) (a:Addr) (e p:Nat) (w:World) (h0:RowAt w b0 [.string s0,.iface 151 (.pointer (some ⟨b1,0,none⟩))] 153) (h1:RowAt w b1 [.string s1,.iface 115 (.pointer (some ⟨b,0,none⟩))] 153) (h:RowAt w b [.int .i64 (e:Int),.int .i64 (p:Int)] 119) (hE:Early w a) :
    Calls Tryz.prog 70 #[.iface 151 (.pointer (some ⟨b0,0,none⟩)),.iface 251 (.pointer (some a)),.bool true] w fun r w'=>r = .returned (.bool (decide (e=4)))∧w' = w:=by
  have K:=faultIs_any b a e p w h hE
  have K0:=unwrap_any b0 s0 _ w h0
  have K1:=unwrap_any b1 s1 _ w h1
  have i1:=hasIsF
  have i2:=noUnwrapF
  have i3:=noUnwrapsF
  have i4:=noIsW
  have i5:=hasUnwrapW
  have hty:=run_eql_iface_types (P:=Tryz.prog) 115 251 (.pointer (some ⟨b,0,none⟩)) (.pointer (some a)) Tryz.underlying70 (by decide) w
  have hty0:=run_eql_iface_types (P:=Tryz.prog) 151 251 (.pointer (some ⟨b0,0,none⟩)) (.pointer (some a)) Tryz.underlying70 (by decide) w
  have hty1:=run_eql_iface_types (P:=Tryz.prog) 151 251 (.pointer (some ⟨b1,0,none⟩)) (.pointer (some a)) Tryz.underlying70 (by decide) w
  cases q:decide (e=4)
  all_goals rw [q] at K
  all_goals
    go_enter Tryz.func70,Tryz.ntmps70
    go_wp2
    refine wp_loop_rounds 3 ?_
    rw [rounds_succ]
    go_wp2_with (first | (go_at_call 182;refine K.mono ?_;rintro r w' ⟨rfl,hw'⟩;obtain rfl:=hw'.symm) | (go_at_call 184;with_reducible refine K0.mono ?_;rintro r w' ⟨rfl,hw'⟩;obtain rfl:=hw'.symm) | (go_at_call 184;with_reducible refine K1.mono ?_;rintro r w' ⟨rfl,hw'⟩;obtain rfl:=hw'.symm))
    rw [rounds_succ]
    go_wp2_with (first | (go_at_call 182;refine K.mono ?_;rintro r w' ⟨rfl,hw'⟩;obtain rfl:=hw'.symm) | (go_at_call 184;with_reducible refine K0.mono ?_;rintro r w' ⟨rfl,hw'⟩;obtain rfl:=hw'.symm) | (go_at_call 184;with_reducible refine K1.mono ?_;rintro r w' ⟨rfl,hw'⟩;obtain rfl:=hw'.symm))
    rw [rounds_succ]
    go_wp2_with (first | (go_at_call 182;refine K.mono ?_;rintro r w' ⟨rfl,hw'⟩;obtain rfl:=hw'.symm) | (go_at_call 184;with_reducible refine K0.mono ?_;rintro r w' ⟨rfl,hw'⟩;obtain rfl:=hw'.symm) | (go_at_call 184;with_reducible refine K1.mono ?_;rintro r w' ⟨rfl,hw'⟩;obtain rfl:=hw'.symm))
    go_ret
    exact ⟨rfl,rfl⟩
theorem is_chain (d:Nat) (hd:d≤2) (v:Value) (a:Addr) (e p:Nat) (w:World) (h:Chain w d v e p) (hE:Early w a) :
    Calls Tryz.prog 70 #[v,.iface 251 (.pointer (some a)),.bool true] w fun r w'=>r = .returned (.bool (decide (e=4)))∧w' = w:=by
  match d,hd,h with
  | 0,_,⟨b,e1,h1⟩=>subst e1;exact is0 b a e p w h1 hE
  | 1,_,⟨b0,s0,c,e1,h1,b,e2,h2⟩=>subst e1 e2;exact is1 b0 b s0 a e p w h1 h2 hE
  | 2,_,⟨b0,s0,c,e1,h1,b1,s1,c1,e2,h2,b,e3,h3⟩=>subst e1 e2 e3;exact is2 b0 b1 b s0 s1 a e p w h1 h2 h3 hE
theorem Chain.iface {w:World} {d:Nat} {v:Value} {e p:Nat} (h:Chain w d v e p):∃ t x,v = .iface t x:=by
  match d,h with
  | 0,⟨b,e1,_⟩=>exact ⟨_,_,e1⟩
  | d+1,⟨b,s,c,e1,_,_⟩=>exact ⟨_,_,e1⟩
set_option maxHeartbeats 2000000 in
set_option maxRecDepth 100000 in
theorem Is_nil (a:Addr) (w:World) :
    Calls Tryz.prog 40 #[.nilIface,.iface 251 (.pointer (some a))] w fun r w'=>r = .returned (.bool false)∧w' = w:=by
  have hn:=run_eql_iface_nil_left (P:=Tryz.prog) w 251 (.pointer (some a)) Tryz.underlying70
  go_enter Tryz.func40,Tryz.ntmps40
  go_wp2
  go_ret
  exact ⟨rfl,rfl⟩
set_option maxHeartbeats 2000000 in
set_option maxRecDepth 100000 in
theorem Is_chain (d:Nat) (hd:d≤2) (v:Value) (a:Addr) (e p:Nat) (w:World) (h:Chain w d v e p) (hE:Early w a) :
    Calls Tryz.prog 40 #[v,.iface 251 (.pointer (some a))] w fun r w'=>r = .returned (.bool (decide (e=4)))∧w' = w:=by
  have K:=is_chain d hd v a e p w h hE
  obtain ⟨t,x,rfl⟩:=h.iface
  have tT:=callTypeOf
  have cT:=callComparable
  clear h hE
  cases q:decide (e=4)
  all_goals rw [q] at K
  all_goals
    go_enter Tryz.func40,Tryz.ntmps40
    go_wp2_with (first | (go_at_call 70;refine K.mono ?_;rintro r w' ⟨rfl,hw'⟩;obtain rfl:=hw'.symm))
    go_ret
    exact ⟨rfl,rfl⟩
end Go.Proofs.YtkpcmfgeanlcnabGreatDoor
namespace Go.Proofs.YtkpcmfgeanlcnabGreatDoor
open Go.RowKit Go.Deep
def Hold (w:World) (v:Value) (xs:List Value):Prop:=
  (v = .slice none 0 0∧xs=[])∨∃ g off cap,v = .slice (some ⟨g,off,none⟩) xs.length cap∧∀ j u,xs[j]? = some u→w.cell? ⟨g,off+j,none⟩=some u
def natV (l:List Nat):List Value:=l.map fun (z:Nat)=>Value.int .i64 (z:Int)
theorem natV_at {l:List Nat} {j:Nat} (h:j < l.length):(natV l)[j]? = some (.int .i64 ((l.getD j 0:Nat):Int)):=by
  simp [natV,List.getElem?_map,List.getD_eq_getElem?_getD,List.getElem?_eq_getElem h]
def totalS (l:List Nat):Nat:=if l.sum≤65536 then l.sum else 65537
def lengthS (k:Nat) (l:List Nat):Nat:=(totalS l+k - 1) / k
def eR:Option (Nat×Nat)→Nat
  | none=>0
  | some x=>x.1
def orE (r s:Option (Nat×Nat)):Option (Nat×Nat):=match r with | none=>s | some x=>some x
def Errs (r:Option (Nat×Nat)):Prop:=∀ x,r=some x→x.1≠0
theorem errs_none:Errs none:=fun _ h=>by cases h
theorem errs_some {x y:Nat} (h:x≠0):Errs (some (x,y)):=fun _ e=>by cases e;exact h
theorem Errs.or {r s:Option (Nat×Nat)} (h:Errs r) (h':Errs s):Errs (orE r s):=by
  cases r with
  | none=>exact h'
  | some x=>exact h
theorem errs_fixE (l:List UInt8):∀ (ws:List UInt8) (a:Nat),Errs (fixE l a ws)
  | [],_=>errs_none
  | c :: ws,a=>by
    unfold fixE
    split
    · exact errs_some (by decide)
    · split
      · exact errs_fixE l ws (a+1)
      · exact errs_some (by decide)
theorem errs_sealE (l:List UInt8) (a n:Nat):Errs (sealE l a n):=by
  unfold sealE
  split
  · exact errs_some (by decide)
  · split
    · exact errs_none
    · exact errs_some (by decide)
def mustE (ok:Bool) (x y:Nat):Option (Nat×Nat):=if ok then none else some (x,y)
theorem errs_mustE {ok:Bool} {x y:Nat} (h:x≠0):Errs (mustE ok x y):=by
  unfold mustE
  split
  · exact errs_none
  · exact errs_some h
section
variable {sb:Nat} {v:Value} {at_:Nat} {r:Option (Nat×Nat)} {w:World}
end
section
variable {sb bb bo cap:Nat} {l:List UInt8} {at_:Nat} {r:Option (Nat×Nat)} {w:World}
end
theorem Chain.under {w w':World} (hb:Below w.heap.size w w'):∀ {d:Nat} {v:Value} {e p:Nat},Chain w d v e p→Chain w' d v e p
  | 0,_,_,_,⟨b,e1,h1⟩=>⟨b,e1,h1.later (S:=fun _=>False) (.of_below hb) h1.lt id⟩
  | _+1,_,_,_,⟨b,s,c,e1,h1,h2⟩=>⟨b,s,c,e1,h1.later (S:=fun _=>False) (.of_below hb) h1.lt id,Chain.under hb h2⟩
def Faulty (w:World) (d e p:Nat) (r:Ending) (w':World):Prop:=∃ v,r = .returned v∧Chain w' d v e p∧Below w.heap.size w w'
set_option maxHeartbeats 400000 in
set_option maxRecDepth 100000 in
theorem at_any (E P:Int) (e p:Nat) (hE:E=e) (hP:P=p) (w:World) :
    Calls Tryz.prog 77 #[.int .i64 E,.int .i64 P] w fun r w'=>Faulty w 0 e p r w':=by
  subst hE hP
  have hr:=RowAt.made w [.int .i64 (e:Int),.int .i64 (p:Int)] 119
  have hB:=(Below.refl w.heap.size w).alloc (Nat.le_refl _) (.cells #[.int .i64 (e:Int),.int .i64 (p:Int)] 119)
  go_enter Tryz.func77,Tryz.ntmps77
  go_wp2
  go_ret
  exact ⟨_,rfl,⟨_,rfl,hr⟩,hB⟩
set_option maxHeartbeats 400000 in
set_option maxRecDepth 100000 in
theorem within_nil (s:ByteArray) (w:World) :
    Calls Tryz.prog 54 #[.string s,.nilIface] w fun r w'=>r = .returned .nilIface∧w' = w:=by
  go_enter Tryz.func54,Tryz.ntmps54
  go_wp2
  go_ret
  exact ⟨rfl,rfl⟩
set_option maxHeartbeats 400000 in
set_option maxRecDepth 100000 in
theorem within_any (s:ByteArray) (d:Nat) (v:Value) (e p:Nat) (w:World) (h:Chain w d v e p) :
    Calls Tryz.prog 54 #[.string s,v] w fun r w'=>Faulty w (d+1) e p r w':=by
  have hr:=RowAt.made w [.string s,v] 153
  have hB:=(Below.refl w.heap.size w).alloc (Nat.le_refl _) (.cells #[.string s,v] 153)
  have hc:=h.under hB
  obtain ⟨t,x,rfl⟩:=h.iface
  clear h
  go_enter Tryz.func54,Tryz.ntmps54
  go_wp2
  go_ret
  exact ⟨_,rfl,⟨_,_,_,rfl,hr,hc⟩,hB⟩
theorem le_succ (l:List UInt8):∀ (n a:Nat),le l a (n+1)=le l a n+256 ^ n*bAt l (a+n)
  | 0,a=>by simp [le]
  | n+1,a=>by
    have h:=le_succ l n (a+1)
    show bAt l a+256*le l (a+1) (n+1)=(bAt l a+256*le l (a+1) n)+_
    rw [h,show a+1+n=a+(n+1) by omega,Nat.pow_succ,Nat.mul_add]
    have:256*(256 ^ n*bAt l (a+(n+1)))=256 ^ n*256*bAt l (a+(n+1)):=by rw [← Nat.mul_assoc,Nat.mul_comm 256]
    omega
theorem u64_or_lt {a b:Nat} (ha:a < 2 ^ 64) (hb:b < 2 ^ 64):bits .or .u64 (a:Int) (b:Int)=((a ||| b:Nat):Int):=by
  show IntKind.u64.wrap ((BitVec.ofInt 64 (a:Int) ||| BitVec.ofInt 64 (b:Int)).toNat:Int)=_
  rw [BitVec.toNat_or,ofInt_u64' a ha,ofInt_u64' b hb,wrap_u64_lt _ (Nat.or_lt_two_pow ha hb)]
theorem put_byte {x y c:Nat} (hc:c < 8) (hx:x < 256 ^ c) (hy:y < 256):bits .or .u64 (x:Int) (IntKind.u64.wrap ((y:Int)*2 ^ (8*c)))=((x+256 ^ c*y:Nat):Int)∧x+256 ^ c*y < 256 ^ (c+1):=by
  have e:(256:Nat) ^ c=2 ^ (8*c):=by rw [Nat.pow_mul]
  have h56:2 ^ (8*c)≤2 ^ 56:=Nat.pow_le_pow_right (by omega) (by omega)
  have hp:y*2 ^ (8*c)≤255*2 ^ 56:=Nat.mul_le_mul (by omega) h56
  have ei:(y:Int)*2 ^ (8*c)=((y*2 ^ (8*c):Nat):Int):=by simp
  rw [e] at hx ⊢
  have hsum:x+2 ^ (8*c)*y < 256 ^ (c+1):=by
    have h1:2 ^ (8*c)*y≤2 ^ (8*c)*255:=Nat.mul_le_mul_left _ (by omega)
    have h2:256 ^ (c+1)=2 ^ (8*c)*256:=by rw [Nat.pow_succ,e]
    omega
  refine ⟨?_,hsum⟩
  rw [ei,wrap_u64_lt _ (by omega),u64_or_lt (by omega) (by omega)]
  have h3:=Nat.shiftLeft_add_eq_or_of_lt hx y
  rw [Nat.shiftLeft_eq] at h3
  rw [Nat.or_comm,← h3,Nat.mul_comm y,Nat.add_comm]
set_option maxHeartbeats 1000000 in
set_option maxRecDepth 100000 in
theorem readNumber_any (bb bo n cap:Nat) (l:List UInt8) (hn:l.length=n) (hn8:n≤8) (w:World) (hb:Byt w bb bo l) :
    Calls Tryz.prog 145 #[.slice (some ⟨bb,bo,none⟩) n cap] w fun r w'=>r = .returned (.int .u64 (le l 0 n:Nat))∧w' = w:=by
  go_enter Tryz.func145,Tryz.ntmps145
  go_wp2
  go_loop [3,8] (fun vn vi=>∃ c x:Nat,c≤n∧vi = .int .i64 (c:Int)∧vn = .int .u64 (x:Int)∧x < 256 ^ c∧Hid (x=le l 0 c)) (fun _ i=>n - (intOf i).toNat)
  case atStart=>exact ⟨0,0,by omega,rfl,rfl,by simp,rfl⟩
  case round=>
    obtain ⟨c,x,hc,rfl,rfl,hx,H⟩:=hrel
    by_cases hlt:c < n
    · have hcell:=hb c (by omega)
      have hy:=bAt_lt l c
      have H2:Hid _:=le_succ l c 0
      rw [Nat.zero_add] at H2
      obtain ⟨y,ey⟩:∃ y,bAt l c=y:=⟨_,rfl⟩
      rw [ey] at hcell hy H2
      obtain ⟨h3,h4⟩:=put_byte (show c < 8 by omega) hx hy
      have H4:Hid (x+256 ^ c*y < 256 ^ (c+1)):=h4
      have H5:Hid (x+256 ^ c*y=le l 0 (c+1)):=by
        show _=_
        rw [H2.out,H.out]
      clear ey hb h4 hx H H2
      obtain ⟨z,ez⟩:∃ z,x+256 ^ c*y=z:=⟨_,rfl⟩
      rw [ez] at h3 H4 H5
      clear ez
      go_wp2
      go_round
      case rel=>exact ⟨c+1,z,by omega,by go_num,rfl,H4.out,H5⟩
      case measure=>simp [intOf];omega
    · obtain rfl:c=n:=by omega
      clear hb hx
      go_wp2
      go_ret
      exact ⟨ret_u64 (by rw [H.out]),rfl⟩
structure Rd where
  k:Nat
  n:Nat
  i:Nat
  c:Nat
  vN:Value
  vS:Value
  vC:Value
  m:Nat
  ln:Nat
  tt:Nat
  nx:Nat
  pl:Nat
  vT:Value
  vF:Value
def Rd.cells (r:Rd):List Value:=[.int .i64 (r.k:Int),.int .i64 (r.n:Int),.int .i64 (r.i:Int),.int .i64 (r.c:Int),r.vN,r.vS,r.vC,.int .i64 (r.m:Int),.int .i64 (r.ln:Int),.int .i64 (r.tt:Int),.int .i64 (r.nx:Int),.int .i64 (r.pl:Int),r.vT,r.vF]
def RdAt (w:World) (rb:Nat) (r:Rd):Prop:=RowAt w rb r.cells 91
def sizeR (nx c m ln cl:Nat):Nat:=if nx=0 then 32 else if nx=1 then m+8 else if nx=2 then min c (ln - cl)+8 else 4
set_option maxHeartbeats 2000000 in
set_option maxRecDepth 100000 in
theorem size_any (rb:Nat) (r:Rd) (bc:Option Addr) (cl cc:Nat) (hC:r.vC = .slice bc cl cc) (hm:r.m≤1000000) (hc:r.c≤1000000) (hl:r.ln≤1000000) (hcl:cl≤r.ln) (hnx:r.nx≤3) (w:World) (h:RdAt w rb r) :
    Calls Tryz.prog 130 #[.pointer (some ⟨rb,0,none⟩)] w fun q w'=>q = .returned (.int .i64 (sizeR r.nx r.c r.m r.ln cl:Nat))∧∃ j,w' = w.drewN j:=by
  obtain ⟨k,n,i,c,vN,vS,vC,m,ln,tt,nx,pl,vT,vF⟩:=r
  simp only at hC hm hc hl hcl hnx ⊢
  subst hC
  unfold RdAt Rd.cells at h
  have c3:=h.cell (i:=3) rfl
  have c6:=h.cell (i:=6) rfl
  have c7:=h.cell (i:=7) rfl
  have c8:=h.cell (i:=8) rfl
  have c10:=h.cell (i:=10) rfl
  simp only at c3 c6 c7 c8 c10
  clear h
  have hc4:nx=0∨nx=1∨nx=2∨nx=3:=by omega
  rcases hc4 with rfl | rfl | rfl | rfl
  · go_enter Tryz.func130,Tryz.ntmps130
    go_wp2
    go_ret
    exact ⟨rfl,0,rfl⟩
  · go_enter Tryz.func130,Tryz.ntmps130
    go_wp2
    go_ret
    exact ⟨rfl,0,rfl⟩
  · have HS:Hid (sizeR 2 c m ln cl=min c (ln - cl)+8):=rfl
    rcases Nat.lt_or_ge (ln - cl) c with q | q
    · have q':(ln:Int) - (cl:Int) < (c:Int):=by omega
      have HM:Hid ((min c (ln - cl)+8:Nat)=ln - cl+8):=by show _=_;omega
      go_enter Tryz.func130,Tryz.ntmps130
      go_wp2_with fail
      go_big_quiet (fail)
      go_wp2
      go_ret
      exact ⟨ret_i64 (by rw [HS.out,HM.out];omega),_,rfl⟩
    · have q':(c:Int)≤(ln:Int) - (cl:Int):=by omega
      have HM:Hid ((min c (ln - cl)+8:Nat)=c+8):=by show _=_;omega
      go_enter Tryz.func130,Tryz.ntmps130
      go_wp2_with fail
      go_big_quiet (fail)
      go_wp2
      go_ret
      exact ⟨ret_i64 (by rw [HS.out,HM.out];omega),_,rfl⟩
  · go_enter Tryz.func130,Tryz.ntmps130
    go_wp2
    go_ret
    exact ⟨rfl,0,rfl⟩
theorem RowAt.drewN {w:World} {b:Nat} {cs:List Value} {t:TypeId} (h:RowAt w b cs t) (j:Nat):RowAt (w.drewN j) b cs t:=h
section
variable (rb:Nat) (r:Rd) (bc:Option Addr) (cl cc:Nat) (hC:r.vC = .slice bc cl cc) (hm:r.m≤1000000) (hc:r.c≤1000000) (hl:r.ln≤1000000) (hcl:cl≤r.ln) (hnx:r.nx≤3) (bt:Option Addr) (tl ct:Nat) (hT:r.vT = .slice bt tl ct) (htl:tl≤1000000000) (hpl:r.pl≤1000000000000) (w:World) (h:RdAt w rb r)
set_option maxHeartbeats 2000000 in
set_option maxRecDepth 100000 in
include hC hm hc hl hcl hnx hT h in
theorem whole_yes (hs:sizeR r.nx r.c r.m r.ln cl≤tl) :
    Calls Tryz.prog 144 #[.pointer (some ⟨rb,0,none⟩)] w fun q w'=>q = .returned .nilIface∧∃ j,w' = w.drewN j:=by
  have K:∀ j,Calls Tryz.prog 130 #[.pointer (some ⟨rb,0,none⟩)] (w.drewN j) fun q w'=>q = .returned (.int .i64 (sizeR r.nx r.c r.m r.ln cl:Nat))∧∃ n,w' = w.drewN n:=fun j=>
    (size_any rb r bc cl cc hC hm hc hl hcl hnx (w.drewN j) (RowAt.drewN h j)).mono fun q w' x=>⟨x.1,by
      obtain ⟨i,hi⟩:=x.2
      exact ⟨j+i,by rw [hi];simp [World.drewN,Nat.add_assoc]⟩⟩
  obtain ⟨z,ez⟩:∃ z,sizeR r.nx r.c r.m r.ln cl=z:=⟨_,rfl⟩
  simp only [ez] at K hs
  have c12:w.cell? ⟨rb,12,none⟩=some (.slice bt tl ct):=by rw [← hT];exact RowAt.cell h rfl
  have hs':decide ((tl:Int) < (z:Int))=false:=by simp;omega
  have hs2:(z:Int)≤(tl:Int):=by omega
  clear ez h hC hT
  go_enter Tryz.func144,Tryz.ntmps144
  go_wp2_with fail
  go_big_quiet (first | (go_at_call 130;exact (K _).mono (fun _ _ h=>⟨h.1,h.2⟩)))
  go_wp2
  go_ret
  exact ⟨rfl,_,rfl⟩
set_option maxHeartbeats 2000000 in
set_option maxRecDepth 100000 in
include hC hm hc hl hcl hnx hT htl hpl h in
theorem whole_no (hs:tl < sizeR r.nx r.c r.m r.ln cl) :
    Calls Tryz.prog 144 #[.pointer (some ⟨rb,0,none⟩)] w fun q w'=>Faulty w 0 4 (r.pl+tl) q w':=by
  have K:∀ j,Calls Tryz.prog 130 #[.pointer (some ⟨rb,0,none⟩)] (w.drewN j) fun q w'=>q = .returned (.int .i64 (sizeR r.nx r.c r.m r.ln cl:Nat))∧∃ n,w' = w.drewN n:=fun j=>
    (size_any rb r bc cl cc hC hm hc hl hcl hnx (w.drewN j) (RowAt.drewN h j)).mono fun q w' x=>⟨x.1,by
      obtain ⟨i,hi⟩:=x.2
      exact ⟨j+i,by rw [hi];simp [World.drewN,Nat.add_assoc]⟩⟩
  obtain ⟨z,ez⟩:∃ z,sizeR r.nx r.c r.m r.ln cl=z:=⟨_,rfl⟩
  simp only [ez] at K hs
  have c12:w.cell? ⟨rb,12,none⟩=some (.slice bt tl ct):=by rw [← hT];exact RowAt.cell h rfl
  have c11:w.cell? ⟨rb,11,none⟩=some (.int .i64 (r.pl:Int)):=RowAt.cell h rfl
  have hs':decide ((tl:Int) < (z:Int))=true:=by simp;omega
  have hs2:(tl:Int) < (z:Int):=by omega
  obtain ⟨pl,epl⟩:∃ pl,r.pl=pl:=⟨_,rfl⟩
  rw [epl] at c11 hpl ⊢
  clear ez h hC hT epl
  go_enter Tryz.func144,Tryz.ntmps144
  go_wp2_with fail
  go_big_quiet (first | (go_at_call 130;exact (K _).mono (fun _ _ h=>⟨h.1,h.2⟩)))
  go_wp2_with fail
  have hwr:IntKind.i64.wrap ((pl:Int)+(tl:Int))=(pl:Int)+(tl:Int):=IntWalk.i64_in _ (by omega)
  refine wp_region_tail 10 mixed (by kernel_rfl) ?_
  simp only [List.take_succ_cons,List.take_zero,List.drop_succ_cons,List.drop_zero]
  repeat still_step
  refine wpStill_nil ?_
  go_wp2_with (first | (go_at_call 77;refine (at_any _ _ 4 (pl+tl) (by rfl) (by simp) _).mono ?_;rintro q w2 ⟨v,rfl,h1,h2⟩))
  go_ret
  refine ⟨_,rfl,h1,?_⟩
  exact ⟨h2.os,h2.tape,h2.output,h2.size,h2.block⟩
end
def begE (l ws:List UInt8):Option Nat:=(List.range (min ws.length l.length)).find? fun i=>decide (bAt l i≠(ws.getD i 0).toNat)
def Begins (w:World) (l ws:List UInt8) (pl:Nat) (q:Ending) (w':World):Prop:=
  match begE l ws with
  | none=>q = .returned .nilIface∧∃ j,w' = w.drewN j
  | some i=>Faulty w 0 5 (pl+i) q w'
theorem begE_some {l ws:List UInt8} {c:Nat} (hc:c < min ws.length l.length) (h:∀ i,i < c→bAt l i=(ws.getD i 0).toNat) (hne:bAt l c≠(ws.getD c 0).toNat):begE l ws=some c:=by
  unfold begE
  rw [List.find?_range_eq_some]
  exact ⟨by simpa using hne,by simpa using hc,fun j hj=>by simpa using h j hj⟩
theorem begE_none {l ws:List UInt8} (h:∀ i,i < min ws.length l.length→bAt l i=(ws.getD i 0).toNat):begE l ws=none:=by
  unfold begE
  rw [List.find?_eq_none]
  intro i hi
  have:=h i (by simpa using hi)
  simpa using this
theorem Faulty.of_drewN {w w':World} {j d e p:Nat} {q:Ending} (h:Faulty (w.drewN j) d e p q w'):Faulty w d e p q w':=by
  obtain ⟨v,h1,h2,h3⟩:=h
  exact ⟨v,h1,h2,⟨h3.os,h3.tape,h3.output,h3.size,h3.block⟩⟩
set_option maxHeartbeats 4000000 in
set_option maxRecDepth 100000 in
theorem begins_any (rb:Nat) (r:Rd) (l ws:List UInt8) (hw:ws.length≤100) (hl:l.length≤1000000000) (hpl:r.pl≤1000000000000) (w:World) (h:RdAt w rb r) (hT:Lies w r.vT (u8V l)) :
    Calls Tryz.prog 140 #[.pointer (some ⟨rb,0,none⟩),.string ⟨ws.toArray⟩] w fun q w'=>Begins w l ws r.pl q w':=by
  obtain ⟨bt,ct,ev,hct,hc⟩:=hT
  rw [u8V_length] at ev hct
  have c12:w.cell? ⟨rb,12,none⟩=some (.slice bt l.length ct):=by rw [← ev];exact RowAt.cell h rfl
  have c11:w.cell? ⟨rb,11,none⟩=some (.int .i64 (r.pl:Int)):=RowAt.cell h rfl
  obtain ⟨pl,epl⟩:∃ pl,r.pl=pl:=⟨_,rfl⟩
  rw [epl] at c11 hpl ⊢
  have hsz:=ba_size ws
  clear h ev epl
  have idx:=index_str ws
  rcases Nat.lt_or_ge l.length ws.length with q0 | q0
  all_goals
    first | (have EM:Hid (min ws.length l.length=l.length):=(show _=_ by omega)) | (have EM:Hid (min ws.length l.length=ws.length):=(show _=_ by omega))
    go_enter Tryz.func140,Tryz.ntmps140
    go_wp2
    go_loopw [14] (fun vi wr=>∃ c j:Nat,c≤min ws.length l.length∧vi = .int .i64 (c:Int)∧wr=w.drewN j∧Hid (∀ i,i < c→bAt l i=(ws.getD i 0).toNat)) (fun i _=>min ws.length l.length - (intOf i).toNat)
    case atStart=>exact ⟨0,0,by omega,rfl,rfl,fun i hi=>absurd hi (by omega)⟩
    case round=>
      obtain ⟨c,j,hcm,rfl,rfl,H⟩:=hrel
      by_cases hlt:c < min ws.length l.length
      · obtain ⟨b,off,rfl,hcell⟩:=hc c _ (u8V_get (by omega))
        have hy:=bAt_lt l c
        have hz:(ws.getD c 0).toNat < 256:=UInt8.toNat_lt _
        have hix:=idx c (by omega)
        obtain ⟨y,ey⟩:∃ y,bAt l c=y:=⟨_,rfl⟩
        obtain ⟨z,ez⟩:∃ z,(ws.getD c 0).toNat=z:=⟨_,rfl⟩
        rw [ey] at hcell hy
        rw [ez] at hix hz
        have EY:Hid (bAt l c=y):=ey
        have EZ:Hid ((ws.getD c 0).toNat=z):=ez
        clear ey ez hc idx
        by_cases q:y=z
        · subst q
          go_wp2_with fail
          go_big_quiet (fail)
          go_wp2
          go_roundw
          case rel=>
            refine ⟨c+1,_,by omega,by go_num,rfl,fun i hi => ?_⟩
            rcases Nat.lt_or_ge i c with h1 | h1
            · exact H.out i h1
            · obtain rfl:i=c:=by omega
              rw [EY.out,EZ.out]
          case measure=>simp [intOf];omega
        · have q':((y:Int) == (z:Int))=false:=by simp;omega
          have q2:((y:Int) != (z:Int))=true:=by simp;omega
          have HB:Hid (begE l ws=some c):=begE_some (by rw [EM.out];omega) H.out (by rw [EY.out,EZ.out];exact q)
          have hwr:IntKind.i64.wrap ((pl:Int)+(c:Int))=(pl:Int)+(c:Int):=IntWalk.i64_in _ (by omega)
          go_wp2_with fail
          go_big_quiet (fail)
          go_wp2_with (first | (go_at_call 77;refine (at_any _ _ 5 (pl+c) (by rfl) (by simp) _).mono ?_;rintro q w2 ⟨v,rfl,g1,g2⟩))
          go_ret
          unfold Begins
          rw [HB.out]
          exact Faulty.of_drewN ⟨_,rfl,g1,g2⟩
      · have HB:Hid (begE l ws=none):=begE_none (fun i hi=>H.out i (by rw [EM.out] at hi;omega))
        clear hc idx
        go_wp2
        go_ret
        unfold Begins
        rw [HB.out]
        exact ⟨rfl,_,rfl⟩
def magic1:List UInt8:=[67,65,73,82,78,49]
def headR (r:Option (Nat×Nat)) (k n i z c m ln zz:Nat):Option (Nat×Nat):=
  orE (orE (orE (orE (orE (orE (orE (orE r (mustE (decide (1≤k∧k≤128)) 1 6)) (mustE (decide (k≤n∧n≤128)) 1 7)) (mustE (decide (i < n)) 1 8)) (mustE (decide (z=0)) 1 9)) (mustE (decide (1≤c∧c≤65536)) 1 10)) (mustE (decide (4≤m∧m≤300000)) 1 14)) (mustE (decide (ln≤65536)) 1 18)) (mustE (decide (zz=0)) 1 22)
def shardL (k n i c:Nat) (a b d:Value):List Value:=[.int .i64 (k:Int),.int .i64 (n:Int),.int .i64 (i:Int),.int .i64 (c:Int),a,b,d]
theorem infoS:(Tryz.prog.info? 9).map (fun i=>(i.zero,i.size,i.bytes))=some (some (.string ⟨#[]⟩),1,16):=by kernel_rfl
theorem infoI:(Tryz.prog.info? 3).map (fun i=>(i.zero,i.size,i.bytes))=some (some (.int .i64 0),1,8):=by kernel_rfl
def strsV (l:List (List UInt8)):List Value:=l.map fun s=>Value.string ⟨s.toArray⟩
theorem strV_at {l:List (List UInt8)} {j:Nat} (h:j < l.length):(strsV l)[j]? = some (.string ⟨(l.getD j []).toArray⟩):=by
  simp [strsV,List.getElem?_map,List.getD_eq_getElem?_getD,List.getElem?_eq_getElem h]
def notBehind (a b:List UInt8):Bool:=Op.bytesLess a b || a == b
def blobsE (l:List UInt8) (en:Nat):Nat→Nat→List (List UInt8)→List Nat→Except (Nat×Nat) (List (List UInt8)×List Nat×Nat)
  | 0,a,ns,zs=>.ok (ns,zs,a)
  | c+1,a,ns,zs=>
    if en < a+2 then .error (7,a)
    else if le l a 2 < 1∨255 < le l a 2∨en < a+6+le l a 2 then .error (7,a)
    else if 0 < ns.length∧notBehind (part l (a+2) (le l a 2)) (ns.getD (ns.length - 1) [])=true then .error (7,a+2)
    else if 65536 < totalS (zs++[le l (a+2+le l a 2) 4]) then .error (7,a+2+le l a 2)
    else blobsE l en c (a+6+le l a 2) (ns++[part l (a+2) (le l a 2)]) (zs++[le l (a+2+le l a 2) 4])
structure ShX (w:World) (xb:Nat) (k n i c:Nat) (vN vS vC:Value):Prop where
  row:RowAt w xb (shardL k n i c vN vS vC) 36
theorem owns_later {w w':World} {base e size n:Nat} {v:Value} {xs:List Value} (h:w.ownsRow base e size v n xs) (hh:∀ g,v.ownBlock=some g→w'.heap[g]? = w.heap[g]?):w'.ownsRow base e size v n xs:=by
  refine ⟨h.1,?_⟩
  rcases h.2 with x | ⟨g,cap,cur,rfl,h1,h2,h3⟩
  · exact .inl x
  · exact .inr ⟨g,cap,cur,rfl,h1,(hh g rfl).trans h2,h3⟩
def Apart2 (a b:Value):Prop:=∀ g,a.ownBlock=some g→b.ownBlock≠some g
theorem conv_part {w:World} {bb bo:Nat} {l:List UInt8} (h:Byt w bb bo l) (k:Nat) (hk:l.length=k) (cap:Nat):(convert 33 9 (.slice (some ⟨bb,bo,none⟩) k cap)).run Tryz.prog w = .ok (.string ⟨l.toArray⟩) w:=by
  subst hk
  refine run_convert_bytes_back w 33 9 5 ⟨bb,bo,none⟩ cap l Tryz.underlying33 Tryz.underlying5 Tryz.underlying9 (fun j hj => ?_)
  rw [add_off,h j hj]
  simp [bAt,List.getD_eq_getElem?_getD,List.getElem?_eq_getElem hj]
def endE (en:Nat) (r:Except (Nat×Nat) (List (List UInt8)×List Nat×Nat)):Except (Nat×Nat) (List (List UInt8)×List Nat):=
  match r with
  | .error e=>.error e
  | .ok (ns,zs,a)=>if a=en then .ok (ns,zs) else .error (7,a)
def namesE (l:List UInt8) (m:Nat):Except (Nat×Nat) (List (List UInt8)×List Nat):=
  match sealE l 32 m with
  | some e=>.error e
  | none=>
    if 1000 < le l 32 4 then .error (7,32)
    else endE (32+m) (blobsE l (32+m) (le l 32 4) 36 [] [])
theorem sealE_len {l:List UInt8} {a n:Nat} (h:sealE l a n=none):a+n+8≤l.length:=by
  unfold sealE at h
  split at h
  · cases h
  · omega
section
end
theorem one_str (x:ByteArray):∀ u∈[Value.string x],u.oneCell' = true:=by intro u hu;simp at hu;subst hu;rfl
theorem one_i64 (x:Int):∀ u∈[Value.int .i64 x],u.oneCell' = true:=by intro u hu;simp at hu;subst hu;rfl
theorem strV_snoc (l:List (List UInt8)) (s:List UInt8):strsV l++[.string ⟨s.toArray⟩]=strsV (l++[s]):=by simp [strsV]
theorem natV_snoc (l:List Nat) (z:Nat):natV l++[.int .i64 (z:Int)]=natV (l++[z]):=by simp [natV]
theorem owns_some {w:World} {base e n:Nat} {v:Value} {xs:List Value} (h:w.ownsRow base e 1 v n xs) (hn:0 < n):∃ g cap,v = .slice (some ⟨g,0,none⟩) n cap:=by
  rcases h.2 with ⟨_,h0⟩ | ⟨g,c,_,h1,_⟩
  · omega
  · exact ⟨g,c,h1⟩
theorem cell_one_at (w:World) (b:Nat) (x:Value) (t:TypeId) (hb:b=w.heap.size):∀ j u,[x][j]? = some u→(w.alloc (.cells #[x] t)).cell? ((⟨b,0,none⟩:Addr).add j)=some u:=by
  subst hb
  exact cell_one_new w x t
section
end
end Go.Proofs.YtkpcmfgeanlcnabGreatDoor

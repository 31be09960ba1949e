import GoSem.Machine.Exec
import Derived.KernelRfl
import Derived.Tactics
import Derived.IntWalk
import Derived.Below
import Derived.Conc.Own
import Derived.Laws.AppendOwn
import Derived.Conc.Company
import Derived.Laws.Rows
import Derived.OwnWalk
import Derived.Laws.BitsLemmas
import Derived.Laws.World
import Derived.Laws.MakeOwn
import Derived.LoopN
abbrev ae(T:Array Go.Value)(i:Nat):=T.getD i Go.undef
abbrev ah:=Go.World
abbrev ai:=Go.Value
abbrev aG:=Go.Goroutine
abbrev aJ:=Go.Frame
abbrev aN:=Go.Program
abbrev aF:=Go.TypeId
abbrev aU:=Go.FuncId
abbrev ak:=List UInt8
abbrev aB:=Array Go.Value
abbrev aH:=Array Go.Event
abbrev aK:=List Go.Value
abbrev aP:=List Go.Frame
abbrev aY:=Option Go.Addr
abbrev aV:=Option Go.Obj
abbrev dE:=Array Go.Goroutine
abbrev aA:=List Nat
abbrev di:=List Int
abbrev b_:=List Go.Item
abbrev az:=@Nat.le_refl
abbrev au:=@if_neg
abbrev aQ:=@Option.getD_some
abbrev bH:=@List.getD_eq_getElem?_getD
abbrev ay:=@if_pos
abbrev bG:=@Nat.lt_of_lt_of_le
abbrev bf:=@Go.Conc.stepG_region_end
abbrev bK:=@List.length_append
abbrev aT:=@Go.RowKit.Below.refl
abbrev dh:=@Array.getElem?_eq_some_iff
abbrev aO:=@Go.Conc.Goes.step
abbrev cO:=@List.getElem?_eq_getElem
abbrev bu:=@Nat.le_trans
abbrev aW:=@Go.Conc.stepG_seq
abbrev aZ:=@Go.Conc.Terms.idle
abbrev bT:=@List.cons_append
abbrev bJ:=@Nat.lt_or_ge
abbrev bM:=@Nat.zero_add
abbrev dC:=@Bool.false_eq_true
abbrev dD:=@Go.RowKit.Below.heap_setCell
abbrev cu:=@Nat.mod_eq_of_lt
abbrev dA:=@List.nil_append
abbrev dL:=@Option.map_eq_some_iff
abbrev aX:=@if_true
abbrev dQ:=@Array.replicate_zero
abbrev dR:=@Array.replicate_succ
abbrev dP:=@List.append_toArray
abbrev fJ:=@List.getElem?_eq_some_iff
abbrev bI:=@congrArg
abbrev bF:=@Go.Conc.goes_go
abbrev eQ:=@Go.RowKit.ownsRow_setCell_below
abbrev dK:=@Go.World.ownsRow_nil
abbrev dI:=@Go.RowKit.Below.heap_alloc
abbrev dJ:=@List.length_cons
abbrev dM:=@List.push_toArray
abbrev dO:=@List.getElem?_map
abbrev dG:=@Nat.xor_assoc
abbrev bQ:=@if_false
abbrev gV:=@List.getElem?_append_left
abbrev dV:=@Nat.lt_succ_self
abbrev fZ:=@Array.mem_of_getElem?
abbrev eP:=@Go.wpList_append_own
abbrev dm:=@Go.info_parts
abbrev dY:=@List.length_nil
abbrev dZ:=@List.range_succ
abbrev d_:=@List.append_nil
abbrev fE:=@Nat.eq_zero_or_pos
abbrev fG:=@List.mem_singleton
abbrev fP:=@UInt8.toNat_ofNat'
abbrev fK:=@List.append_assoc
abbrev bV:=@Go.Conc.opsC_nil
abbrev dW:=@Nat.add_assoc
abbrev dX:=@List.mem_cons
abbrev g_:=@List.getElem?_eq_none
abbrev fU:=@List.size_toArray
abbrev fA:=@Option.map_some
abbrev fO:=@Go.IntKind.wrap_i64
abbrev iT:=@Nat.add_sub_cancel_left
abbrev iJ:=@Array.getElem?_modify
abbrev fD:=@decide_eq_false
abbrev jZ:=@Array.getElem?_setIfInBounds_ne
abbrev dS:=@Go.Conc.stepG_region
abbrev dF:=@Go.Conc.Goes.stop
abbrev fH:=@List.mem_range
abbrev jE:=@List.getElem?_append_right
abbrev fC:=@Go.heap_alloc_new
abbrev fM:=@Go.IntWalk.i64_in
abbrev bY:=@Go.Conc.wpC_seq
abbrev iI:=@Array.getElem?_push
abbrev jG:=@Classical.byContradiction
abbrev gp:=@Option.some.inj
abbrev gK:=@Option.bind_some
abbrev gW:=@Bool.and_eq_true
abbrev dH:=@Go.Conc.Goes.rely
abbrev jg:=@List.take_of_length_le
abbrev gJ:=@Go.World.ownsRow.lt
abbrev iF:=@Nat.add_sub_cancel
abbrev jb:=@UInt8.lt_iff_toNat_lt
abbrev gZ:=@List.length_take
abbrev jB:=@List.getElem?_cons_zero
abbrev jD:=@List.getElem?_cons_succ
abbrev iE:=@Option.some.injEq
abbrev iH:=@Int.toNat_natCast
abbrev iQ:=@Nat.xor_lt_two_pow
abbrev fF:=@Go.Loc.cell.inj
abbrev iG:=@List.length_drop
abbrev iP:=@decide_eq_true_eq
abbrev fQ:=@Nat.le_of_eq
abbrev mr:=@Array.all_eq_true_iff_forall_mem
abbrev jA:=@List.mem_of_getElem?
abbrev gU:=@List.map_cons
abbrev gu:=@Nat.mul_comm
abbrev gy:=@Nat.add_zero
abbrev gz:=@List.mem_map
abbrev iZ:=@of_decide_eq_true
abbrev jk:=@List.ext_getElem?
abbrev l7:=@List.eq_nil_of_length_eq_zero
abbrev gQ:=@Nat.succ_mul
abbrev iU:=@List.sum_append
abbrev jr:=@of_decide_eq_false
abbrev jw:=@Nat.lt_of_le_of_lt
abbrev jS:=@Nat.mul_le_mul_right
abbrev mg:=@Array.getD_eq_getD_getElem?
abbrev fB:=@Go.Conc.stepG_skip
abbrev gX:=@Nat.zero_mul
abbrev kW:=@Array.getElem?_eq_none
abbrev jW:=@List.map_congr_left
abbrev iO:=@Go.size_madeCells
abbrev jh:=@List.map_append
abbrev ji:=@List.length_map
abbrev mf:=@Array.getElem?_eq_getElem
abbrev jX:=@List.getElem?_take
abbrev jF:=@List.all_eq_true
abbrev jR:=@Go.heap_setCell_other
abbrev ja:=@decide_eq_true
abbrev gY:=@Nat.zero_le
abbrev kN:=@Nat.pow_le_pow_right
abbrev iD:=@Go.bodyPost_ret
abbrev lK:=@Option.bind_eq_some_iff
abbrev dU:=@Ne.symm
abbrev lY:=@List.length_eq_zero_iff
abbrev jY:=@List.flatten_cons
abbrev jm:=@Bool.not_true
abbrev iC:=@Go.rounds_succ
abbrev jc:=@Nat.xor_self
abbrev jd:=@Nat.pow_succ
abbrev jf:=@Nat.le_of_lt
abbrev lU:=@List.mem_cons_of_mem
abbrev kK:=@Go.heap_setCell_same
abbrev lJ:=@Go.World.cell?_alloc_lt
abbrev lX:=@List.length_pos_iff
abbrev kS:=@List.nodup_range
abbrev je:=@Nat.mul_one
abbrev jv:=@Nat.xor_comm
abbrev iR:=@Nat.mod_lt
abbrev jy:=@Nat.add_comm
abbrev mi:=@Array.ext_getElem?
abbrev kQ:=@Nat.one_ne_zero
abbrev pW:=@Array.getElem?_setIfInBounds
abbrev jT:=@List.sum_cons
abbrev nM:=@List.take_append_drop
abbrev lZ:=@List.getElem?_set
abbrev fV:=@Fin.ext
abbrev oM:=@Nat.shiftRight_xor_distrib
abbrev kR:=@Nat.mul_le_mul
abbrev kV:=@Array.mem_push
abbrev lM:=@Nat.div_eq_of_lt
abbrev jU:=@List.map_nil
abbrev jV:=@List.map_map
abbrev oO:=@Nat.shiftRight_eq_div_pow
abbrev nK:=@Nat.mul_le_mul_left
abbrev nO:=@List.getElem?_range
abbrev nP:=@List.flatMap_append
abbrev oK:=@Go.World.cell?_setCell_other
abbrev pF:=@List.find?_range_eq_some
abbrev kU:=@Bool.false_or
abbrev lV:=@List.mem_append
abbrev l_:=@Bool.or_eq_true
abbrev lT:=@List.take_zero
abbrev l9:=@List.drop_zero
abbrev pJ:=@List.drop_of_length_le
abbrev nT:=@Array.size_append
abbrev pU:=@Array.mem_iff_getElem?
abbrev lq:=@Go.wp_loop_rounds
abbrev pz:=@List.getElem?_toArray
abbrev pV:=@Array.getElem?_toList
abbrev nU:=@Array.mem_append
abbrev oZ:=@Nat.eq_of_testBit_eq
abbrev avT:=@List.take_append_of_le_length
abbrev nD:=@Go.World.size_alloc
abbrev oJ:=@beq_eq_false_iff_ne
abbrev oL:=@Option.bind_eq_bind
abbrev pg:=@List.take_succ_cons
abbrev pI:=@List.drop_succ_cons
abbrev lL:=@Nat.sub_self
abbrev nG:=@UInt8.toNat_lt
abbrev pG:=@List.find?_eq_none
abbrev av3:=@Int.tdiv_eq_ediv_of_nonneg
abbrev pR:=@BitVec.toNat_ofNat
abbrev pX:=@Array.getElem?_map
abbrev iY:=@Go.Conc.wpC_rely
abbrev oQ:=@Nat.lt_trichotomy
abbrev lQ:=@Nat.add_mul
abbrev pO:=@Decidable.not_not
abbrev nH:=@Prod.mk.injEq
abbrev lH:=@Go.results_tmp
abbrev avK:=@decide_eq_false_iff_not
abbrev oU:=@Nat.le_max_right
abbrev pq:=@List.mem_toArray
abbrev nI:=@Nat.xor_zero
abbrev nN:=@List.sum_nil
abbrev av1:=@List.drop_eq_nil_of_le
abbrev nS:=@Int.lt_or_le
abbrev av_:=@Array.getElem?_push_lt
abbrev jQ:=@Go.run_make
abbrev oI:=@Go.results_cell_row
abbrev oP:=@Nat.min_eq_left
abbrev oV:=@Nat.le_max_left
abbrev o_:=@Nat.div_add_mod
abbrev avS:=@Nat.div_lt_iff_lt_mul
abbrev lG:=@Go.Conc.stepG_block
abbrev nJ:=@Nat.one_mul
abbrev avV:=@List.mem_append_left
abbrev avX:=@List.getElem?_append
abbrev pM:=@List.drop_drop
abbrev av8:=@BitVec.ofInt_natCast
abbrev avP:=@Nat.xor_mod_two_pow
abbrev avY:=@List.flatten_append
abbrev avM:=@Go.World.cell?_of_block
abbrev lF:=@Go.Conc.stepG_cond
abbrev avW:=@List.getElem?_drop
abbrev av4:=@Function.comp_def
abbrev av6:=@Bool.not_eq_true'
abbrev avL:=@Go.World.size_setCell
abbrev kJ:=@Go.Conc.wpC_loop
abbrev avU:=@List.not_mem_nil
abbrev avZ:=@List.ext_getElem
abbrev av7:=@BitVec.toNat_xor
abbrev lu:=@Go.Conc.wpC_block
abbrev avN:=@Go.Value.slice.injEq
abbrev avO:=@Option.pure_def
abbrev av9:=@Array.size_push
abbrev lI:=@dif_pos
abbrev aw1:=@Nat.two_pow_add_eq_or_of_lt
abbrev aw2:=@Nat.mod_two_eq_zero_or_one
abbrev avJ:=@Go.run_loadVar_row
abbrev aw9:=@List.getElem?_eq_none_iff
abbrev av2:=@Go.IntKind.wrap_u8
abbrev aw0:=@Option.isSome_iff_exists
abbrev avQ:=@Nat.sub_zero
abbrev avR:=@Nat.le_total
abbrev aw5:=@Nat.div_div_eq_div_mul
abbrev aw7:=@List.reverse_singleton
abbrev av5:=@Bool.true_or
abbrev aw3:=@Nat.le_of_ble_eq_true
abbrev aw6:=@List.singleton_append
abbrev aw_:=@List.filterMap_append
abbrev axb:=@Array.getElem_push_lt
abbrev aw8:=@List.mem_of_mem_take
abbrev axa:=@Bool.or_eq_false_iff
abbrev aw4:=@Nat.div_eq_of_lt_le
variable {p:Prop}
theorem ag(h:p:=by omega):p:=h
theorem aj(h:p:=by kernel_rfl):p:=h
theorem ax(h:p:=by simp):p:=h
theorem aC(h:p:=by decide):p:=h
theorem aS(h:p:=by simp;omega):p:=h
theorem aI(h:p:=by rfl):p:=h
theorem dB(h:p:=by unfold maxLen;omega):p:=h
theorem a_(h:p:=by go_simp):p:=h
theorem eG(h:p:=by simp only [Fq,QC];rfl):p:=h
theorem eU(h:p:=by simp only [phi];omega):p:=h
theorem iw(h:p:=by rw [IntKind.wrap_i64];omega):p:=h
theorem mW(h:p:=by rw [eAτ];simp only [stepG.apply,if_true,ht3 τ hτ,GStep.after];rfl):p:=h
theorem h_(h:p:=by simp only [kO4,qk4];rfl):p:=h
theorem bU(h:p:=by go_num):p:=h
theorem mY(h:p:=by rw [eA0];simp only [stepG.apply,if_true,sW,GStep.after];rfl):p:=h
theorem eY(h:p:=by rw [t_];omega):p:=h
theorem iq(h:p:=by rw [if_neg (by omega)]):p:=h
theorem gG(h:p:=by simp [intOf];omega):p:=h
theorem iV(h:p:=by simp only [dO8,qd8];rfl):p:=h
theorem ou(h:p:=by rw [show (s.rd vN vS vC vT .nilIface).nx=s.nx from rfl];omega):p:=h
theorem gI(h:p:=by simp [Act.eval]):p:=h
theorem m_(h:p:=by have:=hb.pl;exact Nat.le_trans this (by omega)):p:=h
theorem ni(h:p:=by have:=hb.ln;exact Nat.le_trans this (by omega)):p:=h
theorem ng(h:p:=by have:=hb.m;exact Nat.le_trans this (by omega)):p:=h
theorem nz(h:p:=by have:=hb.c;exact Nat.le_trans this (by omega)):p:=h
theorem mX(h:p:=by rw [eA0];simp only [stepG.apply,if_true,sW];rfl):p:=h
theorem jo(h:p:=by simp only [Pn,Vt];rfl):p:=h
theorem jJ(h:p:=by simp only [enO,qen];rfl):p:=h
theorem jK(h:p:=by simp only [QT,Xn];rfl):p:=h
theorem jM(h:p:=by simp only [QS,Xm];rfl):p:=h
theorem jO(h:p:=by simp only [QR,Xl];rfl):p:=h
theorem ik(h:p:=by rw [wH];omega):p:=h
theorem j_(h:p:=by simp only [aO5,qa5];rfl):p:=h
theorem eX(h:p:=by simp [sJ]):p:=h
theorem mV(h:p:=by rw [e] at e';exact Loc.cell.inj e'):p:=h
theorem iL(h:p:=by rw [uS];omega):p:=h
theorem iK(h:p:=by simpa using h1):p:=h
theorem iM(h:p:=by decide +kernel):p:=h
theorem ku(h:p:=by simp only [UW,Zv];rfl):p:=h
theorem kC(h:p:=by simp only [Tz,Zh];rfl):p:=h
theorem jq(h:p:=by simp at hi;omega):p:=h
theorem iW(h:p:=by rw [xP];omega):p:=h
theorem kD(h:p:=by simp at hf ⊢;omega):p:=h
theorem avA(h:p:=by have:=h.hts;simp only [Array.size_append];omega):p:=h
theorem awL(h:p:=by rw [get_map_set _ _ _ _ (by omega),hx,Option.map_some,woken_quitsD Ug]):p:=h
theorem iy(h:p:=by assumption):p:=h
theorem axI(h:p:=by rw [fin];exact ⟨⟨G9,Oi⟩,rfl,rfl,rfl,S,two (a:=.inRegion ops _) ho,hS.put fun x hx hd=>by obtain ⟨u',e,h⟩:=Zj (aal Em hx hd) sW;cases e;exact h⟩):p:=h
theorem jH(h:p:=by simpa using hj):p:=h
theorem mG(h:p:=by simp only [wO5,qw5];rfl):p:=h
theorem mJ(h:p:=by simp only [dO9,qd9];rfl):p:=h
theorem awM(h:p:=by rw [get_map_set _ _ _ _ (by omega),hx,Option.map_some,hsx.woken]):p:=h
theorem ig(h:p:=by simp [mk]):p:=h
theorem axH(h:p:=by rw [fin];exact ⟨⟨G9,Oi⟩,rfl,rfl,rfl,S,two (a:=.inRegion ops _) ho,hS.put fun x hx hd=>by obtain ⟨u',e,h⟩:=Zj (aal Em hx hd) sW;cases e⟩):p:=h
theorem f_(h:p:=by cases h):p:=h
theorem axm(h:p:=by simp only [G,stepG,stepG.exec,Bool.not_true,Bool.false_eq_true,if_false,hc,hτ v.drawn (Nat.le_refl _) (Nat.lt_succ_self _)]):p:=h
theorem jI(h:p:=by simpa using h2):p:=h
theorem avo(h:p:=by show w.heap.size+1≠w.heap.size;omega):p:=h
theorem kZ(h:p:=by simp [go_sem, *]):p:=h
theorem avy(h:p:=by intro u hu;simp at hu;subst hu;rfl):p:=h
theorem kY(h:p:=by simp [p];omega):p:=h
theorem nC(h:p:=by have:=hMr k h;omega):p:=h
theorem kG(h:p:=by simp [h.size]):p:=h
theorem mQ(h:p:=by rw [vG hc];omega):p:=h
theorem axu(h:p:=by rw [show stepG P true { frame:=f,callers:=cs,status:=.running,dying:=none } v=_ from he];rfl):p:=h
theorem qh(h:p:=by simp only [lt] at g2;simp [g2]):p:=h
theorem avl(h:p:=by simp [deafBehind,semEvents]):p:=h
theorem avn(h:p:=by simp [Value.ownBlock];omega):p:=h
theorem avp(h:p:=by show v.heap.size<=lb;omega):p:=h
theorem kF(h:p:=by simp [hj]):p:=h
theorem axw(h:p:=by rw [show (2:Nat) ^ 32=256 ^ 4 from rfl];exact Nat.pow_le_pow_right (by omega) hn):p:=h
theorem avr(h:p:=by rw [x8];exact Nat.le_refl _):p:=h
theorem aws(h:p:=by show w.heap.size<=w.heap.size+1;omega):p:=h
theorem awJ(h:p:=by rw [hi];simp [World.drewN,Nat.add_assoc]):p:=h
theorem Rz(h:p:=by simp only [World.cell?,hz]):p:=h
theorem mD(h:p:=by simpa using h):p:=h
theorem awq(h:p:=by simp [Frame.at] at hx;subst hx;exact hc):p:=h
theorem awi(h:p:=by simp only [World.cell?,r.stands hb id]):p:=h
theorem awr(h:p:=by show w.heap.size≠w.heap.size+1;omega):p:=h
theorem ayg(h:p:=by exact Nat.lt_of_lt_of_le (by rw [hg] at lt2;exact lt2) (Nat.le_of_lt hgs)):p:=h
theorem awF(h:p:=by rw [hτ p (by omega),t1];exact hag p hp):p:=h
theorem axl(h:p:=by simp only [G,stepG,stepG.exec,Bool.not_true,Bool.false_eq_true,if_false,hc]):p:=h
theorem mP(h:p:=by show _=_;omega):p:=h
theorem oH(h:p:=by intro h;cases h):p:=h
theorem awj(h:p:=by simp only [Sem.runT] at hr;cases hr):p:=h
theorem awP(h:p:=by rw [HS2.out];exact Nat.le_refl _):p:=h
theorem axG(h:p:=by rw [fin];exact ⟨⟨G9,Oi⟩,rfl,rfl,rfl,S,two (a:=.inRegion ops _) ho,hS.un _⟩):p:=h
theorem nY(h:p:=by simpa using ht):p:=h
theorem awv(h:p:=by rw [upd_ne D _ e];exact aeU a ha e):p:=h
theorem qg(h:p:=by simpa [Fa,uD] using F7):p:=h
theorem avt(h:p:=by rw [if_pos (by omega)]):p:=h
theorem avz(h:p:=by have:=hlen.out;omega):p:=h
theorem nZ(h:p:=by simpa using hi):p:=h
theorem avm(h:p:=by simp [World.putObj]):p:=h
theorem avx(h:p:=by rw [Sem.runT_eq,hr]):p:=h
theorem awW(h:p:=by have:=of_decide_eq_false Oq;omega):p:=h
theorem avC(h:p:=by have:=g1.size;omega):p:=h
theorem avD(h:p:=by have:=I2.size;omega):p:=h
theorem kH(h:p:=by cases he):p:=h
theorem nX(h:p:=by simpa using xg):p:=h
theorem oq(h:p:=by rw [wP];omega):p:=h
theorem awU(h:p:=by have:=of_decide_eq_true qK;omega):p:=h
theorem awV(h:p:=by have:=of_decide_eq_true Oq;omega):p:=h
theorem kX(h:p:=by simp at h):p:=h
theorem oh(h:p:=by simp [sJ] at hj):p:=h
theorem axt(h:p:=by rw [vP,List.mem_singleton] at hb;subst hb;exact h.sf.bs.lt h.mj):p:=h
theorem jP(h:p:=by rw [h]):p:=h
theorem mM(h:p:=by simp [hx]):p:=h
theorem awG(h:p:=by rw [hs.size,xU.size];exact hsz):p:=h
theorem oz(h:p:=by rw [hl];omega):p:=h
theorem avv(h:p:=by rw [h.size];omega):p:=h
theorem awO(h:p:=by rw [List.length_drop];omega):p:=h
theorem awT(h:p:=by rw [<- hT];exact ql.cell h rfl):p:=h
theorem avH(h:p:=by exact AL.cell rfl):p:=h
theorem mZ(h:p:=by rw [Mc];rfl):p:=h
theorem awS(h:p:=by rw [<- hWg] at hb;exact hb):p:=h
theorem awX(h:p:=by have:=hB.row.lt;simp;omega):p:=h
theorem avq(h:p:=by show 1 < _;omega):p:=h
theorem oG(h:p:=by rw [HG.out]):p:=h
theorem lh(h:p:=by cases hx):p:=h
theorem awh(h:p:=by simp;have:=hb.size;omega):p:=h
theorem awN(h:p:=by rw [Mc];simp [World.at,hWg]):p:=h
theorem mO(h:p:=by simp [cnt]):p:=h
theorem avs(h:p:=by rw [t_,t_];omega):p:=h
theorem pY(h:p:=by unfold T6;go_simp):p:=h
theorem lg(h:p:=by rw [e]):p:=h
theorem axS(h:p:=by rw [Deaf_other t (by omega) _ g_of_ofEvents,h.deaf0]):p:=h
theorem axY(h:p:=by rw [<- Nat.succ_mul];exact Nat.mul_le_mul_right s hi):p:=h
theorem awc(h:p:=by unfold wgBlock;trivial):p:=h
theorem awI(h:p:=by rw [hm.tt];exact hm.small):p:=h
theorem axZ(h:p:=by rw [<- Nat.succ_mul];exact Nat.mul_le_mul_right s h):p:=h
theorem avh(h:p:=by simp at h1;omega):p:=h
theorem axv(h:p:=by rw [show b=2 ^ k from Jk];exact Nat.one_le_two_pow):p:=h
theorem axM(h:p:=by rw [List.mem_singleton] at hb;subst hb;exact hF.mj):p:=h
theorem ayc(h:p:=by have:=(sU.gm.own i hi b I9).1;have:=sU.gm.hW;omega):p:=h
theorem ayd(h:p:=by have:=(sU.gm.own i hi b I9).1;have:=sU.gm.hC;omega):p:=h
theorem awf(h:p:=by simpa [pend] using xg):p:=h
theorem axk(h:p:=by simp only [G,stepG,stepG.exec,he,Option.elim];rfl):p:=h
theorem p_(h:p:=by simpa using hf):p:=h
theorem axL(h:p:=by rw [List.mem_singleton] at hu;subst hu;exact anK):p:=h
theorem ayb(h:p:=by have:=H.AO;rw [<- HH.out] at this;exact this):p:=h
theorem awn(h:p:=by simp [World.frozen?,h1]):p:=h
theorem awp(h:p:=by simp [Region.wanted,hg]):p:=h
theorem awy(h:p:=by rw [o.cellAt p hp];simp):p:=h
theorem awQ(h:p:=by rw [Es f];exact uP f 0):p:=h
theorem ax9(h:p:=by have:=SY u 4 (a+2+k);rw [hz] at this;exact this):p:=h
theorem awk(h:p:=by simp [h.size];omega):p:=h
theorem awx(h:p:=by rw [t1];exact hag p hp):p:=h
theorem qf(h:p:=by simpa using Ol):p:=h
theorem ax7(h:p:=by have:=Vc_upd D (⟨1,q,1⟩:WD) hi;have:=hq0 q;omega):p:=h
theorem axd(h:p:=by unfold Hu;exact Nat.div_eq_of_lt (by omega)):p:=h
theorem n_(h:p:=by simp at he):p:=h
theorem awt(h:p:=by rw [wH];simp;omega):p:=h
theorem awu(h:p:=by rw [upd_same];simp):p:=h
theorem awZ(h:p:=by cases hp;exact h4 rfl):p:=h
theorem axr(h:p:=by show w.heap.size < w.heap.size+2;omega):p:=h
theorem axs(h:p:=by rw [vP];exact List.mem_singleton.2 rfl):p:=h
theorem axF(h:p:=by rw [get_map_set _ _ _ _ (by omega),ha];rfl):p:=h
theorem awm(h:p:=by simp [deafBehind]):p:=h
theorem awo(h:p:=by simp [Trace.g?,ho]):p:=h
theorem axo(h:p:=by simp [MemAct.ofEvent,MemAct.touch?] at hx):p:=h
theorem axp(h:p:=by simp [List.map_map,Function.comp_def]):p:=h
theorem awz(h:p:=by rw [o.1];exact hp):p:=h
theorem ax3(h:p:=by have:=hMr _ ((g3 _ h).2 (by omega));omega):p:=h
theorem axy(h:p:=by rw [o2 b (by omega)];exact b1.block b hb):p:=h
theorem avw(h:p:=by rw [e];rfl):p:=h
theorem axV(h:p:=by rw [<- eL1,List.length_append];omega):p:=h
theorem awd(h:p:=by simpa using hlen):p:=h
theorem axc(h:p:=by unfold NV;rw [if_neg (fun x=>hjn x.1)]):p:=h
theorem ax8(h:p:=by have:=UInt8.lt_iff_toNat_lt.1 h';omega):p:=h
theorem awe(h:p:=by simpa using h.size):p:=h
theorem awg(h:p:=by simpa [SN] using h):p:=h
theorem axj(h:p:=by simp only [G,stepG,stepG.exec,he];rfl):p:=h
theorem avi(h:p:=by simp [ru]):p:=h
theorem awY(h:p:=by have:=TT 1 x;omega):p:=h
theorem aya(h:p:=by have:=HSZ.out;simp [sJ] at this;omega):p:=h
theorem avE(h:p:=by exact hot):p:=h
theorem awD(h:p:=by rw [hτ p EE CE,t1]):p:=h
theorem axP(h:p:=by rw [List.length_append,vY];omega):p:=h
theorem axR(h:p:=by rw [EU,List.append_nil];exact JO):p:=h
theorem axg(h:p:=by simpa using hs.str 0 (.order fn id)):p:=h
theorem avj(h:p:=by simp [part]):p:=h
theorem axz(h:p:=by rw [if_neg (by omega),Nat.sub_zero]):p:=h
theorem avu(h:p:=by rw [hd];rfl):p:=h
theorem axN(h:p:=by rw [List.length_take] at hm;omega):p:=h
theorem axW(h:p:=by rw [<- adb (k:=y) hy];exact xJ):p:=h
theorem ayf(h:p:=by have:=(H.own.lt h e'.symm).1;omega):p:=h
theorem avF(h:p:=by exact g2):p:=h
theorem avG(h:p:=by exact Jj):p:=h
theorem avk(h:p:=by simp [hp]):p:=h
theorem awl(h:p:=by simp [go_sem]):p:=h
theorem awK(h:p:=by rw [hh];exact hb):p:=h
theorem axC(h:p:=by rw [h2.size,g2.size];exact g3):p:=h
theorem awR(h:p:=by rw [AZ];omega):p:=h
theorem axU(h:p:=by rw [<- hS];simp only [KK];omega):p:=h
theorem ax1(h:p:=by have:=of_decide_eq_false qK;omega):p:=h
theorem axx(h:p:=by rw [ofEvent_loc_mark h1];rfl):p:=h
theorem axA(h:p:=by rw [hh];exact wS.mono (by omega)):p:=h
theorem ax0(h:p:=by have:=tX.size;have:=I.size;omega):p:=h
theorem ax2(h:p:=by have:=hg.lo;have:=hF.bs.hC;omega):p:=h
theorem ax5(h:p:=by have:=h.lj;have:=h.sf.sb.1;omega):p:=h
theorem ax_(h:p:=by have:=Oy.lt;show 1 < _;omega):p:=h
theorem avI(h:p:=by cases hg):p:=h
theorem axf(h:p:=by subst e;exact ⟨h1.drew m,h2.drew m⟩):p:=h
theorem aww(h:p:=by rw [tu];omega):p:=h
theorem axD(h:p:=by rw [h1];exact hτ p (by omega) CE):p:=h
theorem axO(h:p:=by rw [List.length_append];omega):p:=h
theorem ax6(h:p:=by have:=h.1;rw [sZ] at this;omega):p:=h
theorem axh(h:p:=by simpa [World.setCell] using h3):p:=h
theorem axi(h:p:=by simp only [lt] at g1;simp [g1]):p:=h
theorem awE(h:p:=by rw [hτ p CE,t1]):p:=h
theorem axE(h:p:=by rw [h i (List.mem_range.1 hi)]):p:=h
theorem axT(h:p:=by rw [Array.size_push];omega):p:=h
theorem aye(h:p:=by have:=(o4.lt h e.symm).1;omega):p:=h
theorem awC(h:p:=by rw [if_pos hj]):p:=h
theorem awH(h:p:=by rw [hr,h1];rfl):p:=h
theorem axJ(h:p:=by rw [e];exact hO.block j hj hn):p:=h
theorem axK(h:p:=by rw [PR n 0 a hn,Nat.zero_add]):p:=h
theorem ax4(h:p:=by have:=hF.lo;have:=hb.hC;omega):p:=h
theorem axe(h:p:=by unfold Frame.catches;rw [Oi]):p:=h
theorem axn(h:p:=by simp [World.cell?,h1,h2,alk]):p:=h
theorem axq(h:p:=by simp [Extern.Race.none_]):p:=h
theorem axB(h:p:=by rw [hg] at lt2;exact lt2):p:=h
theorem axQ(h:p:=by rw [HS.out,HM.out];omega):p:=h
theorem axX(h:p:=by rw [<- Yh];exact (hd t ht).2):p:=h
theorem ayh(h:p:=by simpa using this):p:=h
theorem ayi(h:p:=by go_simp;exact uK):p:=h
theorem ayj(h:p:=by go_wp2;go_ret;exact⟨rfl,rfl⟩):p:=h
theorem ayk(h:p:=by exact(yA he hn).elim):p:=h
theorem ayl(h:p:=by intro K hK;skip;go_simp;exact hK):p:=h
theorem aym(h:p:=by cases h;cases h4):p:=h
theorem ayn(h:p:=by go_wp2;go_ret;exact⟨rfl,nq,rfl⟩):p:=h
theorem ayo(h:p:=by go_ret;exact⟨rfl,rfl⟩):p:=h
theorem ayp(h:p:=by exact .inr (.inl h)):p:=h
theorem ayq(h:p:=by rw[au ag]at this;exact this):p:=h
theorem ayr(h:p:=by exact⟨rfl,_,resultsC_tmp aI _,N,rfl,hF⟩):p:=h
theorem ays(h:p:=by exact dF λ_ _=>⟨rfl,rfl⟩):p:=h
theorem ayt(h:p:=by rw[eA];simp only[stepG.apply,aX,Fp,GStep.after];rfl):p:=h
theorem ayu(h:p:=by dsimp only at this;omega):p:=h
theorem ayv(h:p:=by rw[he];exact⟨_,rfl⟩):p:=h
theorem ayw(h:p:=by go_ret;exact yx.He ⟨_,rfl,g1,g2⟩):p:=h
theorem ayx(h:p:=by refine tY rM ?_;exact qJ _ ⟨_,Af rfl⟩):p:=h
theorem ayy(h:p:=by exact qJ _ ⟨_,Af rfl⟩):p:=h
theorem ayz(h:p:=by rcases H.own.2 with⟨rfl,rfl⟩|⟨g,cap,_,rfl,_⟩<;>exact⟨_,_,rfl⟩):p:=h
theorem ayA(h:p:=by rw[xA]at this;simp only[iH]at this;exact this):p:=h
theorem ayB(h:p:=by go_ret;exact⟨g1,rfl,g2⟩):p:=h
theorem ayC(h:p:=by obtain rfl:n=m+1:=ag;exact⟨az _,λ_ _=>rfl⟩):p:=h
theorem ayD(h:p:=by rw[Mc];exact(qQ.alloc (o:=wgBlock link.tWg 0 0) (hW1.at dd) awc).at d'):p:=h
theorem ayE(h:p:=by rw[Mc,<-hWg];exact fC (W1.at dd) _):p:=h
theorem ayF(h:p:=by rename_i hs;cases h;exact Kw hs h4):p:=h
theorem ayG(h:p:=by cases u<;>first|exact .inr λ_=>rfl|exact .inl λ_=>rfl):p:=h
theorem ayH(h:p:=by have:W.heap.size=v0.heap.size:=Ou.size;omega):p:=h
theorem ayI(h:p:=by rw[au ag,show s.u.drawn+i-s.u.drawn=i by omega]):p:=h
theorem ayJ(h:p:=by exact tY hD (Ac hD (Ll hD (qJ _ (afd rfl))))):p:=h
theorem ayK(h:p:=by simp only[Fq,QC]at ho;cases ho;exact w_ _ (pq.2 (fG.2 rfl)) rfl):p:=h
theorem ayL(h:p:=by exact((mono _ n hle).2 p hc).symm):p:=h
theorem ayM(h:p:=by have:=bI List.length h2;simp at this;exact this):p:=h
theorem ayN(h:p:=by show(if p<s.u.drawn then _ else _)=_;rw[ay hp]):p:=h
theorem ayO(h:p:=by go_ret2;exact⟨by first|rfl|(congr 3;simp;omega),_,rfl⟩):p:=h
theorem ayP(h:p:=by simp only[Frame.enter,g1,gK,g3,aQ,fG]at hx;subst hx;exact g4):p:=h
theorem ayQ(h:p:=by obtain⟨cs',t',fr',h1,h2⟩:=yY.doc b hb;obtain rfl:=yY.unf b _ _ _ hb h2;exact⟨cs',t',(UT b (hXC b hb).1 (hXC b hb).2).trans h1⟩):p:=h
theorem ayR(h:p:=by obtain⟨h1,h2⟩:=ih ag;have h3:=qs m;exact⟨bu h1 h3.1,λp hp=>(h3.2.1 p ag).trans (h2 p hp)⟩):p:=h
theorem ayS(h:p:=by exact WA b c ty fz (λhh=>hh.elim hx ag) ((UT b ag ag).trans (EL yY hx h3))):p:=h
theorem ayT(h:p:=by go_wp2;go_ret;exact⟨rfl,l2,g1,hb,hs,g2,g3,g4⟩):p:=h
theorem ayU(h:p:=by obtain⟨c1,t1,f1,e1,e2⟩:=yY.doc b hx;obtain⟨c2,t2,f2,e3,e4⟩:=xI.doc b (.inl hx);rw[UT b ag ag,e1]at e3;rw[e2]at h3;cases e3;cases h3;exact e4):p:=h
theorem ayV(h:p:=by rw[Mc];exact dI (W1.at dd) _ b awS):p:=h
theorem ayW(h:p:=by go_ret;exact⟨rfl,DR,ajF⟩):p:=h
theorem ayX(h:p:=by go_wp2;go_ret;exact⟨rfl,zI rfl HF.out⟩):p:=h
theorem ayY(h:p:=by go_wp2;go_ret;exact⟨rfl,0,rfl⟩):p:=h
theorem ayZ(h:p:=by rw[upd_same]at this;simpa using this):p:=h
theorem ay0(h:p:=by refine jG λhd=>Rt ⟨d,λg' w' es h1 h2 h3=>hd ⟨g',w',es,h1,h2,h3⟩⟩):p:=h
theorem ay1(h:p:=by exact⟨_,_,rfl,hpt,J,hJ',by rcases BA with e|e;exact .inl e;exact .inr ⟨_,e,az _⟩⟩):p:=h
theorem ay2(h:p:=by have:=hD.frame Wg hWs (by rw[yZ];exact ajS) (dU sU.gm.hCW);exact xg.of_block this):p:=h
theorem ay3(h:p:=by have o1:W4.os=v'.os:=OU.os;have o3:W3.os=v'.os:=xI.os;have o4:W3.os=W2.os:=hos;have o5:W2.os=W1.os:=mZ;have o6:W1.os=v3.os:=WB.os;have o7:v3.os=v0.os:=QE.os;have o10:W.os=v0.os:=Ou.os;rw[o1,<-o3,o4,o5,o6,o7,o10]):p:=h
theorem ay4(h:p:=by go_ret;have P_:Below w3.heap.size w3 w5:=(hb.alloc hb.size _).trans (g2.mono awh);obtain⟨z1,z2⟩:=Rh Qn WN P_;refine⟨z1,z2,?_⟩;rw[HB.out];exact⟨_,rfl,g1⟩):p:=h
theorem ay5(h:p:=by show((w.heap.push _).push _)[w.heap.size]?=_;rw[iI,au axT,iI,ay rfl]):p:=h
theorem ay6(h:p:=by obtain⟨N',e,_,_,hh⟩:=hwp;cases e;exact(dD _ _ _ _ hN).trans hh):p:=h
theorem ay7(h:p:=by obtain⟨a1,a2⟩:=fin _ w6 Tj sO;exact⟨⟨i+1,ag,ax,a1,a2⟩,gG⟩):p:=h
theorem ay8(h:p:=by obtain⟨arr,h1,h2⟩:=hF.pay;exact⟨arr[idx]' ag,axn,awn⟩):p:=h
theorem ay9(h:p:=by have:=oM (a:=b) (b:=d) (i:=1);simpa[oO]using this):p:=h
theorem ay_(h:p:=by have:∀k:Fin 9,2^k.val<=256:=aC;rw[show b=2^k from Jk];exact this ⟨k,ag⟩):p:=h
theorem aza(h:p:=by rw[e]at hr;cases hr;exact⟨_,rfl,by rw[hτ];exact hS (j,x) h1⟩):p:=h
theorem azb(h:p:=by have hbC:=uI b ag;have a1:W4.heap[b]?=W3.heap[b]?:=xZ.agree xI OU (λhh=>hh.elim hx ag) rfl;have a2:=UT b ag ag;have a3:=hl2 b ag;have a4:W1.heap[b]?=W.heap[b]?:=xZ.agree Ou WB hx (QE.blk ag);rw[a1,a2,a3,a4]):p:=h
theorem azc(h:p:=by exact .inr (.inr ⟨G f' cs,v,#[],w,key v,⟨rfl,az _,λτ _=>key _⟩,hs,az _,λe he=>n_,.here rfl hT hm λK Aq hk=>h K Aq w hk⟩)):p:=h
theorem azd(h:p:=by refine⟨⟨hf,rfl,ha,rfl,[],λx hx=>awq,GM.nil⟩,.inl rfl,trivial,hs.to v.tape 0,λτ _=>?_,Rt⟩;obtain⟨e,a',v',hq,ahU⟩:=h τ 0 (base fn) [] [f0];obtain⟨rfl,_⟩:=hQ _ _ _ hq;obtain⟨n,hn⟩:Steps P (lone ((base fn).at a [.code c]) [f0] {v with tape:=τ,drawn:=0}) (lone ((base fn).at a' []) [f0] v'):=ahU;exact⟨n,a',v',hn,hq⟩):p:=h
theorem aze(h:p:=by exact absurd (xw he hn) (VJ (F:=F) n _ s.r ch _ _ [f0] v' (Lm hi.stack) rfl ⟨hi.tf.fn,hi.tf.defers⟩ rfl)):p:=h
theorem azf(h:p:=by simp only[<-(show b=2^k from Jk)]at this;omega):p:=h
theorem azg(h:p:=by exact hR'.trans (qR.tail (m:=m+1) (o:=λx=>if x=m then fh 0 else out x) Fz ag)):p:=h
theorem azh(h:p:=by obtain⟨b,wr,rfl,qK,_⟩:=hD.evs e he;exact Yx _ _ qK):p:=h
theorem azi(h:p:=by obtain rfl:j=a.length:=ag;have Hg:¬((a.length:Int)<(a.length:Int)):=ag;have hd:decide (a=b)=true:=ja (YD hn ac5);go_wp2;go_ret;exact⟨by first|rfl|(rw[hd];rfl),hw⟩):p:=h
theorem azj(h:p:=by have o1:W4.output=v'.output:=OU.out;have o3:W3.output=v'.output:=xI.out;have o4:W3.output=W2.output:=ho;have o5:W2.output=W1.output:=mZ;have o6:W1.output=v3.output:=WB.out;have o7:v3.output=v0.output:=QE.output;have o10:W.output=v0.output:=Ou.out;rw[o1,<-o3,o4,o5,o6,o7,o10]):p:=h
theorem azk(h:p:=by rw[LD];generalize Sem.run p _ w=r;cases r<;>rfl):p:=h
theorem azl(h:p:=by rw[hi]at uO;cases uO;rcases hs.status with h|h<;>rw[h]<;>simp):p:=h
theorem azm(h:p:=by simp only[Go.ConcR.ofEvent_loc_mark h1]at hx;cases hx):p:=h
theorem azn(h:p:=by simp only[au e3,au (show¬x+1<=m by omega),au (show¬x+1=m+1 by omega)];exact⟨ag,ag,ag,ag⟩):p:=h
theorem azo(h:p:=by obtain⟨T,s0,j,ops,h1,h2,h3,h4⟩:=h;exact⟨T,s0,j,ops,h1,h2,h3.rely r,h4⟩):p:=h
theorem azp(h:p:=by exact(I_.mono (jf uI)).setCell (p:=⟨h,0,none⟩) (az _) _):p:=h
theorem azq(h:p:=by subst et;simp only[bH,cO qK,cO (show t<b.length by omega),aQ]at e⊢;rw[e]):p:=h
theorem azr(h:p:=by have:=h3 (j+1) ag;rw[show a+1+j=a+(j+1)by omega,this];simp):p:=h
theorem azs(h:p:=by subst hji;exact YieldsIfC.opX Oj hi hy (hK _ _ _) hS ⟨λ_=>hS,H⟩):p:=h
theorem azt(h:p:=by rw[Ej];show W.heap[C]?=_;exact EL hs (λhx=>by have:=hX C hx;omega) hP.pay):p:=h
theorem azu(h:p:=by intro u hu;simp at hu;rcases hu with rfl|rfl<;>rfl):p:=h
theorem azv(h:p:=by go_ret;exact⟨by rw[OE,h1,h2,h3,h4];rfl,below_drewN b1 _⟩):p:=h
theorem azw(h:p:=by refine⟨by split<;>omega,by split<;>omega,λ_=>?_⟩;omega):p:=h
theorem azx(h:p:=by obtain⟨s,t,vN,vS,I,_⟩:=n2;exact LK n1 I.rd aC):p:=h
theorem azy(h:p:=by simp only[ay e];exact⟨hx,hx,trivial,trivial⟩):p:=h
theorem azz(h:p:=by have:=BM ns Em.2.1 ns.length (az _);rw[NI,em]at this;omega):p:=h
theorem azA(h:p:=by obtain⟨N',e,hm,_⟩:=hwp;cases e;exact sQ (w:=w₁) (w':=w₁.setCell _ _) rfl eY hm):p:=h
theorem azB(h:p:=by refine late (Fin:=Fin) (Shun:=uV X3) (e:=e3) xE (λ_ _ _ h=>h) (λWp a4 W4 XQ t4 q4 h04 uw IM=>?_) (Zk W3 xI) W3.drawn gs3 sl3 t3 q3 h03 Ov;obtain⟨y,v4,b1,b2,rfl,b3⟩:=uw W4.drawn;exact fin y v4 b1 b2 Wp W4 XQ t4 q4 h04 IM b3):p:=h
theorem azC(h:p:=by exact⟨rfl,f',_,H3,WN,hp3,I_.trans ((wI.below Ap (λg uO=>by have:=(xJ.lt g uO).1;omega)).mono (jf uI)),bu Ap wI.size⟩):p:=h
theorem azD(h:p:=by exact⟨rfl,f',H,hR,Us hu (λh=>absurd h h0),hb⟩):p:=h
theorem azE(h:p:=by simp only[ay e3,au (show¬m+1<=m by omega),aX];exact⟨ag,ag,ag,ag⟩):p:=h
theorem azF(h:p:=by simp only[le];rw[vI ag,vI ag,vI ag,vI ag];simp only[gy,bM,dW]):p:=h
theorem azG(h:p:=by have:=jQ (P:=Tryz.prog) w 34 5 i0 (.int .u8 0) Tryz.underlying34 hi yz .i64 .i64 (L:Int) (L:Int) ag ag ik ag;rw[xA,show(Value.int .u8 0).cells=#[.int .u8 0]from rfl]at this;simpa using this):p:=h
theorem azH(h:p:=by rw[dO]at e;obtain⟨j',Jh,rfl⟩:=dL.1 e;obtain⟨h1,rfl⟩:=GU Jh;exact⟨h1,rfl⟩):p:=h
theorem azI(h:p:=by unfold yw ql at*;rw[hg.block rb ap9 (λe=>hT e.symm)];exact I.rd):p:=h
theorem azJ(h:p:=by obtain⟨r,hr,hrs⟩:=h.rel i' FI La uw;exact⟨r,hr.appOther g_of_ofEvents ag,hrs⟩):p:=h
theorem azK(h:p:=by have hot:=I.ot;have hne:=uM I.ot I.rd aC;unfold rO at hot;obtain⟨g,c,e,_,_,_,_,hB⟩:=A7 hot ag;rw[eT]at e hne;cases e;exact⟨g,0,rfl,hB,λe=>hne avw⟩):p:=h
theorem azL(h:p:=by rw[Sem.runT_eq,lH (fn:=Tryz.f5) (t:=12) rfl _ _ _,events_results_tmp (fn:=Tryz.f5) (t:=12) rfl _ _,h12]):p:=h
theorem azM(h:p:=by have I3:=(I2.ahx Nv Tv Ns (S+z)).akF Nv Tv Ns (a+(k+6));go_ret;refine⟨rfl,I3.but,_,_,⟨?_,I3.on,I3.os,I3.ap,I3.IU,I3.size⟩⟩;have hl:=I3.ls;rw[EN.out,iU,ES.out,show a+(6+k)=a+(k+6)by omega];simpa using hl):p:=h
theorem azN(h:p:=by simp[results,h,hp',asAddr,avJ w g et ty cs fr d hg hu hd hi]):p:=h
theorem azO(h:p:=by rw[ay (show(w.out x).frozen? a=true from hz),ay hz];rfl):p:=h
theorem azP(h:p:=by show stepG P true _ (w.at d')=_;rw[eA,h1];simp only[doReturn,GStep.after];rfl):p:=h
theorem azQ(h:p:=by rw[this];refine hK a' v' s.w hq ?_;rw[<-h3];exact hi.WM.to τ s.u.drawn):p:=h
theorem azR(h:p:=by dsimp only;rw[h1];dsimp only;rw[h2,hne,h4,h5];exact hQ):p:=h
theorem azS(h:p:=by rw[hsz];simp only[Result.andThen,sliced,iH,je];rw[au ag];simp[H7]):p:=h
theorem azT(h:p:=by refine up (hs.agC hc).1 ag ?_;have e1:W'.heap[b]?=W.heap[b]?:=hF.low.UT b ag ag h';have e2:=OX hs hc;simp only[World.cell?,e1]at e2⊢;exact e2):p:=h
theorem azU(h:p:=by show w'.tape (d+i) q=w'.tape (d+(v'.drawn+i-v'.drawn)) q;rw[iT]):p:=h
theorem azV(h:p:=by refine⟨g1.trans h1,ag,λτ hτ=>?_⟩;rw[e,h3 τ λp EE CE=>hτ p EE ag];exact g3 τ λp EE CE=>axD):p:=h
theorem azW(h:p:=by rcases wS.2 with⟨rfl,rfl⟩|⟨g,cap,_,rfl,_⟩<;>exact⟨_,_,rfl⟩):p:=h
theorem azX(h:p:=by have h:(b^^^d)%2^1=(b%2^1)^^^(d%2^1):=avP;rw[Nat.pow_one]at h;rw[h];have h1:b%2=0\/b%2=1:=ag;have h2:d%2=0\/d%2=1:=ag;rcases h1 with h1|h1<;>rcases h2 with h2|h2<;>rw[h1,h2]<;>rfl):p:=h
theorem azY(h:p:=by simp[execOp,uT,resolve,invoke,builtin,hs,hx,hr,Result.andThen];exact hK v' w' r1 r2 r4):p:=h
theorem azZ(h:p:=by obtain⟨h1,h2⟩:=h.o1 m i hm;exact⟨ag,h2⟩):p:=h
theorem az0(h:p:=by rw[Deaf_other t ag _ g_of_ofEvents,h.deafW i' La,upd_ne D _ e]):p:=h

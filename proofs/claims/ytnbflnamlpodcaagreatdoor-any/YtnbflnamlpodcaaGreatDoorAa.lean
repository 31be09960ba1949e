import GoSem.Machine.Exec
import Derived.KernelRfl
import Derived.Tactics
import Derived.IntWalk
import Derived.Below
import Derived.Conc.Own
import Derived.Laws.AppendOwn
import Derived.Conc.Company
import Derived.Laws.Rows
import Derived.OwnWalk
import Derived.Laws.BitsLemmas
import Derived.Laws.World
import Derived.Laws.MakeOwn
import Derived.LoopN
abbrev ak:=@Nat.le_refl
abbrev ah:=@if_neg
abbrev aO:=@List.getD_eq_getElem?_getD
abbrev aB:=@Option.getD_some
abbrev aj:=@if_pos
abbrev aH:=@Go.Conc.stepG_region_end
abbrev aN:=@Nat.lt_of_lt_of_le
abbrev aY:=@List.getElem?_eq_getElem
abbrev aQ:=@List.length_append
abbrev a_:=@Array.getElem?_eq_some_iff
abbrev ay:=@Go.Conc.Goes.step
abbrev aA:=@Go.RowKit.Below.refl
abbrev aK:=@Nat.le_trans
abbrev aC:=@Go.Conc.stepG_seq
abbrev aG:=@Go.Conc.Terms.idle
abbrev aW:=@List.cons_append
abbrev bF:=@Bool.false_eq_true
abbrev bG:=@Go.RowKit.Below.heap_setCell
abbrev aS:=@Nat.zero_add
abbrev aT:=@Nat.lt_or_ge
abbrev bu:=@Nat.mod_eq_of_lt
abbrev bf:=@List.nil_append
abbrev bU:=@Option.map_eq_some_iff
abbrev dH:=@List.getElem?_eq_some_iff
abbrev aF:=@if_true
abbrev b_:=@Array.replicate_zero
abbrev cu:=@Array.replicate_succ
abbrev bY:=@List.append_toArray
abbrev bQ:=@List.getElem?_map
abbrev aJ:=@Go.Conc.goes_go
abbrev dE:=@Go.RowKit.ownsRow_setCell_below
abbrev aP:=@congrArg
abbrev bK:=@Go.RowKit.Below.heap_alloc
abbrev bM:=@List.length_cons
abbrev bV:=@List.push_toArray
abbrev bT:=@Go.World.ownsRow_nil
abbrev aU:=@if_false
abbrev eY:=@List.getElem?_append_left
abbrev di:=@Nat.lt_succ_self
abbrev dX:=@Array.mem_of_getElem?
abbrev dm:=@List.range_succ
abbrev dA:=@List.length_nil
abbrev bg:=@Go.info_parts
abbrev dF:=@Go.wpList_append_own
abbrev dC:=@List.append_nil
abbrev dV:=@List.mem_singleton
abbrev aX:=@Go.Conc.opsC_nil
abbrev dw:=@List.mem_cons
abbrev dU:=@List.size_toArray
abbrev eG:=@Nat.eq_zero_or_pos
abbrev dK:=@Option.map_some
abbrev dR:=@Go.IntKind.wrap_i64
abbrev dB:=@Nat.add_assoc
abbrev gX:=@Nat.add_sub_cancel_left
abbrev eP:=@List.append_assoc
abbrev gB:=@Array.getElem?_modify
abbrev dO:=@decide_eq_false
abbrev jh:=@Array.getElem?_setIfInBounds_ne
abbrev cO:=@Go.Conc.stepG_region
abbrev dG:=@Nat.xor_assoc
abbrev bI:=@Go.Conc.Goes.stop
abbrev fE:=@UInt8.toNat_ofNat'
abbrev iO:=@List.getElem?_append_right
abbrev gZ:=@List.getElem?_eq_none
abbrev dM:=@Go.heap_alloc_new
abbrev dQ:=@Go.IntWalk.i64_in
abbrev aZ:=@Go.Conc.wpC_seq
abbrev gz:=@Array.getElem?_push
abbrev iQ:=@Classical.byContradiction
abbrev d_:=@Option.some.inj
abbrev eQ:=@Option.bind_some
abbrev fA:=@Bool.and_eq_true
abbrev bJ:=@Go.Conc.Goes.rely
abbrev f_:=@Nat.add_sub_cancel
abbrev iq:=@UInt8.lt_iff_toNat_lt
abbrev iL:=@List.getElem?_cons_zero
abbrev iM:=@List.getElem?_cons_succ
abbrev fV:=@Option.some.injEq
abbrev gy:=@Int.toNat_natCast
abbrev iy:=@List.mem_of_getElem?
abbrev iJ:=@List.take_of_length_le
abbrev dP:=@Go.Loc.cell.inj
abbrev gu:=@List.length_take
abbrev gQ:=@of_decide_eq_true
abbrev gU:=@decide_eq_true_eq
abbrev dS:=@Nat.le_of_eq
abbrev kS:=@Array.all_eq_true_iff_forall_mem
abbrev gY:=@List.length_drop
abbrev kH:=@List.eq_nil_of_length_eq_zero
abbrev gp:=@List.mem_range
abbrev fH:=@List.map_cons
abbrev eU:=@Nat.succ_mul
abbrev eX:=@List.mem_map
abbrev iG:=@of_decide_eq_false
abbrev jb:=@Nat.mul_le_mul_right
abbrev kQ:=@Array.getD_eq_getD_getElem?
abbrev dL:=@Go.Conc.stepG_skip
abbrev fF:=@Nat.zero_mul
abbrev fG:=@Nat.add_zero
abbrev gK:=@Go.size_madeCells
abbrev iw:=@List.sum_append
abbrev iC:=@List.map_append
abbrev kN:=@Array.getElem?_eq_getElem
abbrev iP:=@List.all_eq_true
abbrev fZ:=@Nat.mul_comm
abbrev iH:=@Go.World.ownsRow.lt
abbrev ik:=@decide_eq_true
abbrev fU:=@Go.bodyPost_ret
abbrev jX:=@Option.bind_eq_some_iff
abbrev dh:=@Ne.symm
abbrev kD:=@List.length_eq_zero_iff
abbrev jf:=@List.flatten_cons
abbrev jg:=@List.ext_getElem?
abbrev iK:=@List.length_map
abbrev kK:=@Array.getElem?_eq_none
abbrev iD:=@Bool.not_true
abbrev fQ:=@Go.rounds_succ
abbrev jB:=@Nat.xor_lt_two_pow
abbrev jA:=@Go.heap_setCell_other
abbrev gV:=@Nat.zero_le
abbrev jy:=@Go.heap_setCell_same
abbrev jW:=@Go.World.cell?_alloc_lt
abbrev kC:=@List.length_pos_iff
abbrev gW:=@Nat.mod_lt
abbrev iI:=@Nat.le_of_lt
abbrev kF:=@List.getElem?_take
abbrev kR:=@Array.ext_getElem?
abbrev jF:=@Nat.one_ne_zero
abbrev nY:=@Array.getElem?_setIfInBounds
abbrev jc:=@List.sum_cons
abbrev kG:=@List.getElem?_set
abbrev dW:=@Fin.ext
abbrev jG:=@Nat.mul_le_mul
abbrev lZ:=@List.mem_cons_of_mem
abbrev jI:=@Array.mem_push
abbrev j_:=@List.nodup_range
abbrev jd:=@List.map_nil
abbrev je:=@List.map_map
abbrev l7:=@List.getElem?_range
abbrev l9:=@List.flatMap_append
abbrev m_:=@Go.World.cell?_setCell_other
abbrev nO:=@List.find?_range_eq_some
abbrev jH:=@Bool.false_or
abbrev ku:=@List.mem_append
abbrev kJ:=@Bool.or_eq_true
abbrev ja:=@Nat.mul_one
abbrev jD:=@Nat.xor_comm
abbrev jE:=@Nat.pow_succ
abbrev nS:=@List.drop_of_length_le
abbrev mg:=@Array.size_append
abbrev nX:=@Array.mem_iff_getElem?
abbrev jR:=@Go.wp_loop_rounds
abbrev nJ:=@List.take_append_drop
abbrev nN:=@List.getElem?_toArray
abbrev mi:=@Array.mem_append
abbrev anN:=@List.take_append_of_le_length
abbrev lL:=@Go.World.size_alloc
abbrev mZ:=@beq_eq_false_iff_ne
abbrev ng:=@Option.bind_eq_bind
abbrev nz:=@Nat.mul_le_mul_left
abbrev nM:=@List.map_congr_left
abbrev jY:=@Nat.sub_self
abbrev lM:=@UInt8.toNat_lt
abbrev anG:=@Nat.shiftRight_xor_distrib
abbrev lX:=@List.take_zero
abbrev nP:=@List.find?_eq_none
abbrev l_:=@List.drop_zero
abbrev nZ:=@Array.getElem?_map
abbrev ig:=@Go.Conc.wpC_rely
abbrev anH:=@Nat.shiftRight_eq_div_pow
abbrev jZ:=@Nat.add_mul
abbrev nU:=@Decidable.not_not
abbrev lQ:=@Prod.mk.injEq
abbrev pX:=@decide_eq_false_iff_not
abbrev nD:=@Nat.le_max_right
abbrev nH:=@Nat.div_eq_of_lt
abbrev nK:=@List.mem_toArray
abbrev lT:=@Nat.xor_self
abbrev lV:=@Nat.add_comm
abbrev lY:=@List.sum_nil
abbrev anW:=@List.drop_eq_nil_of_le
abbrev mf:=@Int.lt_or_le
abbrev an4:=@Array.getElem?_push_lt
abbrev iZ:=@Go.run_make
abbrev mY:=@Go.results_cell_row
abbrev nC:=@Nat.min_eq_left
abbrev nG:=@Nat.le_max_left
abbrev nI:=@Nat.div_add_mod
abbrev anL:=@Nat.div_lt_iff_lt_mul
abbrev jU:=@Go.Conc.stepG_block
abbrev anI:=@Nat.pow_le_pow_right
abbrev lU:=@Nat.one_mul
abbrev anP:=@List.mem_append_left
abbrev anS:=@List.getElem?_append
abbrev nT:=@List.drop_drop
abbrev anM:=@List.take_succ_cons
abbrev anT:=@List.flatten_append
abbrev anV:=@List.drop_succ_cons
abbrev lK:=@Go.results_tmp
abbrev N7:=@Go.World.cell?_of_block
abbrev jT:=@Go.Conc.stepG_cond
abbrev anJ:=@Nat.lt_of_le_of_lt
abbrev anR:=@List.getElem?_drop
abbrev an2:=@BitVec.toNat_ofNat
abbrev ni:=@Nat.xor_zero
abbrev anY:=@Function.comp_def
abbrev an0:=@Bool.not_eq_true'
abbrev pY:=@Go.World.size_setCell
abbrev jw:=@Go.Conc.wpC_loop
abbrev anO:=@List.not_mem_nil
abbrev anU:=@List.ext_getElem
abbrev an1:=@BitVec.toNat_xor
abbrev jS:=@Go.Conc.wpC_block
abbrev ad2:=@Option.pure_def
abbrev an3:=@Array.size_push
abbrev jV:=@dif_pos
abbrev aoT:=@Nat.two_pow_add_eq_or_of_lt
abbrev aoU:=@Nat.mod_two_eq_zero_or_one
abbrev ao4:=@Int.tdiv_eq_ediv_of_nonneg
abbrev pW:=@Go.run_loadVar_row
abbrev ao2:=@List.getElem?_eq_none_iff
abbrev anX:=@Go.IntKind.wrap_u8
abbrev aoR:=@Option.isSome_iff_exists
abbrev anF:=@Nat.sub_zero
abbrev anK:=@Nat.le_total
abbrev aoY:=@Nat.div_div_eq_div_mul
abbrev ao0:=@List.reverse_singleton
abbrev anQ:=@List.map_set
abbrev anZ:=@Bool.true_or
abbrev aoV:=@Nat.le_of_ble_eq_true
abbrev aoZ:=@List.singleton_append
abbrev ao3:=@List.filterMap_append
abbrev ao7:=@Array.getElem_push_lt
abbrev ao8:=@Array.getElem?_toList
abbrev aoW:=@Nat.eq_of_testBit_eq
abbrev ao1:=@List.mem_of_mem_take
abbrev ao5:=@Bool.or_eq_false_iff
abbrev ao6:=@BitVec.ofInt_natCast
abbrev aoS:=@Nat.xor_mod_two_pow
abbrev aoX:=@Nat.div_eq_of_lt_le
variable {p:Prop}
theorem ae(h:p:=by omega):p:=h
theorem ag(h:p:=by kernel_rfl):p:=h
theorem ai(h:p:=by simp):p:=h
theorem au(h:p:=by decide):p:=h
theorem az(h:p:=by simp;omega):p:=h
theorem ax(h:p:=by rfl):p:=h
theorem bH(h:p:=by unfold maxLen;omega):p:=h
theorem aI(h:p:=by go_simp):p:=h
theorem dD(h:p:=by simp only [BX,LV];rfl):p:=h
theorem dI(h:p:=by simp only [phi];omega):p:=h
theorem fD(h:p:=by rw [IntKind.wrap_i64];omega):p:=h
theorem lh(h:p:=by rw [eAτ];simp only [stepG.apply,if_true,ht3 τ hτ,GStep.after];rfl):p:=h
theorem aV(h:p:=by go_num):p:=h
theorem fB(h:p:=by simp only [Fv,Jn];rfl):p:=h
theorem lu(h:p:=by rw [Z7];simp only [stepG.apply,if_true,hrun,GStep.after];rfl):p:=h
theorem fJ(h:p:=by simp only [WY,qk4];rfl):p:=h
theorem dJ(h:p:=by rw [rZ];omega):p:=h
theorem fM(h:p:=by rw [if_neg (by omega)]):p:=h
theorem mP(h:p:=by rw [show (s.rd vN vS vC vT .nilIface).nx=s.nx from rfl];omega):p:=h
theorem g_(h:p:=by simp only [Za,qd8];rfl):p:=h
theorem lF(h:p:=by have:=hb.pl;exact Nat.le_trans this (by omega)):p:=h
theorem lH(h:p:=by have:=hb.ln;exact Nat.le_trans this (by omega)):p:=h
theorem lq(h:p:=by rw [Z7];simp only [stepG.apply,if_true,hrun];rfl):p:=h
theorem lG(h:p:=by have:=hb.m;exact Nat.le_trans this (by omega)):p:=h
theorem lI(h:p:=by have:=hb.c;exact Nat.le_trans this (by omega)):p:=h
theorem fC(h:p:=by simp [Act.eval]):p:=h
theorem iE(h:p:=by simp only [K_,QP];rfl):p:=h
theorem iU(h:p:=by simp only [enO,qen];rfl):p:=h
theorem iV(h:p:=by simp only [aP3,qq3];rfl):p:=h
theorem fO(h:p:=by rw [hz2];omega):p:=h
theorem ji(h:p:=by simp only [aO5,qa5];rfl):p:=h
theorem lg(h:p:=by rw [e] at e';exact Loc.cell.inj e'):p:=h
theorem gI(h:p:=by rw [tV];omega):p:=h
theorem gG(h:p:=by simpa using h1):p:=h
theorem gJ(h:p:=by decide +kernel):p:=h
theorem jk(h:p:=by simp only [P_,U5];rfl):p:=h
theorem jm(h:p:=by simp only [Oe,UD];rfl):p:=h
theorem iF(h:p:=by simp at hi;omega):p:=h
theorem dY(h:p:=by simp [rF]):p:=h
theorem iW(h:p:=by simp [intOf];omega):p:=h
theorem h_(h:p:=by rw [vM];omega):p:=h
theorem jo(h:p:=by simp at hf ⊢;omega):p:=h
theorem aoE(h:p:=by rw [get_map_set _ _ _ _ (by omega),hx,Option.map_some,woken_quitsD hx2]):p:=h
theorem pG(h:p:=by have:=h.hts;simp only [Array.size_append];omega):p:=h
theorem mW(h:p:=by intro u hu;simp at hu;subst hu;rfl):p:=h
theorem apE(h:p:=by rw [fin];exact ⟨⟨D5,hfn⟩,rfl,rfl,rfl,S,two (a:=.inRegion ops _) ho,hS.put fun x hx hd=>by obtain ⟨u',e,h⟩:=UA (Vt hok hx hd) hrun;cases e;exact h⟩):p:=h
theorem fP(h:p:=by assumption):p:=h
theorem iR(h:p:=by simpa using hj):p:=h
theorem kU(h:p:=by simp only [wO5,qw5];rfl):p:=h
theorem kV(h:p:=by simp only [dO9,qd9];rfl):p:=h
theorem aoF(h:p:=by rw [get_map_set _ _ _ _ (by omega),hx,Option.map_some,hsx.woken]):p:=h
theorem fK(h:p:=by simp [mk]):p:=h
theorem apD(h:p:=by rw [fin];exact ⟨⟨D5,hfn⟩,rfl,rfl,rfl,S,two (a:=.inRegion ops _) ho,hS.put fun x hx hd=>by obtain ⟨u',e,h⟩:=UA (Vt hok hx hd) hrun;cases e⟩):p:=h
theorem dZ(h:p:=by cases h):p:=h
theorem api(h:p:=by simp only [G,stepG,stepG.exec,Bool.not_true,Bool.false_eq_true,if_false,hc,hτ v.drawn (Nat.le_refl _) (Nat.lt_succ_self _)]):p:=h
theorem iT(h:p:=by simpa using h2):p:=h
theorem oO(h:p:=by show w.heap.size+1≠w.heap.size;omega):p:=h
theorem jO(h:p:=by simp [go_sem, *]):p:=h
theorem jK(h:p:=by simp [p];omega):p:=h
theorem lJ(h:p:=by have:=hMr k h;omega):p:=h
theorem jr(h:p:=by simp [h.size]):p:=h
theorem kY(h:p:=by rw [ug hc];omega):p:=h
theorem apr(h:p:=by rw [show stepG P true { frame:=f,callers:=cs,status:=.running,dying:=none } v=_ from he];rfl):p:=h
theorem oz(h:p:=by simp only [lt] at g2;simp [g2]):p:=h
theorem oK(h:p:=by simp [deafBehind,semEvents]):p:=h
theorem oM(h:p:=by simp [Value.ownBlock];omega):p:=h
theorem oP(h:p:=by show v.heap.size<=lb;omega):p:=h
theorem jq(h:p:=by simp [hj]):p:=h
theorem apt(h:p:=by rw [show (2:Nat) ^ 32=256 ^ 4 from rfl];exact Nat.pow_le_pow_right (by omega) hn):p:=h
theorem oU(h:p:=by rw [vV];exact Nat.le_refl _):p:=h
theorem aom(h:p:=by show w.heap.size<=w.heap.size+1;omega):p:=h
theorem aoB(h:p:=by rw [hi];simp [World.drewN,Nat.add_assoc]):p:=h
theorem aok(h:p:=by simp [Frame.at] at hx;subst hx;exact hc):p:=h
theorem aoa(h:p:=by simp only [World.cell?,r.stands hb id]):p:=h
theorem aol(h:p:=by show w.heap.size≠w.heap.size+1;omega):p:=h
theorem aqa(h:p:=by exact Nat.lt_of_lt_of_le (by rw [hg] at lt2;exact lt2) (Nat.le_of_lt hgs)):p:=h
theorem aow(h:p:=by rw [hτ p (by omega),t1];exact hag p hp):p:=h
theorem aph(h:p:=by simp only [G,stepG,stepG.exec,Bool.not_true,Bool.false_eq_true,if_false,hc]):p:=h
theorem kX(h:p:=by show _=_;omega):p:=h
theorem jM(h:p:=by simp [hx]):p:=h
theorem mX(h:p:=by intro h;cases h):p:=h
theorem ou(h:p:=by simpa [BP,sU] using hit):p:=h
theorem aoc(h:p:=by simp only [Sem.runT] at hr;cases hr):p:=h
theorem aoo(h:p:=by rw [upd_ne D _ e];exact hoth a ha e):p:=h
theorem apC(h:p:=by rw [fin];exact ⟨⟨D5,hfn⟩,rfl,rfl,rfl,S,two (a:=.inRegion ops _) ho,hS.un _⟩):p:=h
theorem aoH(h:p:=by rw [HS2.out];exact Nat.le_refl _):p:=h
theorem mr(h:p:=by simpa using hwg):p:=h
theorem mD(h:p:=by simpa using ht):p:=h
theorem aoN(h:p:=by have:=of_decide_eq_false hjl;omega):p:=h
theorem oZ(h:p:=by rw [if_pos (by omega)]):p:=h
theorem pF(h:p:=by have:=hlen.out;omega):p:=h
theorem mG(h:p:=by simpa using hi):p:=h
theorem oL(h:p:=by simp [World.putObj]):p:=h
theorem pz(h:p:=by rw [Sem.runT_eq,hr]):p:=h
theorem aoL(h:p:=by have:=of_decide_eq_true hlt;omega):p:=h
theorem aoM(h:p:=by have:=of_decide_eq_true hjl;omega):p:=h
theorem pI(h:p:=by have:=g1.size;omega):p:=h
theorem pJ(h:p:=by have:=I2.size;omega):p:=h
theorem jv(h:p:=by cases he):p:=h
theorem mO(h:p:=by rw [uM];omega):p:=h
theorem kZ(h:p:=by rw [hW2];rfl):p:=h
theorem pM(h:p:=by exact hx0.cell rfl):p:=h
theorem jJ(h:p:=by simp at h):p:=h
theorem mM(h:p:=by simp [rF] at hj):p:=h
theorem apq(h:p:=by rw [uw,List.mem_singleton] at hb;subst hb;exact h.sf.bs.lt h.mj):p:=h
theorem aoy(h:p:=by rw [hs.size,hs'.size];exact hsz):p:=h
theorem iY(h:p:=by rw [h]):p:=h
theorem mQ(h:p:=by rw [hl];omega):p:=h
theorem pg(h:p:=by rw [h.size];omega):p:=h
theorem aoG(h:p:=by rw [List.length_drop];omega):p:=h
theorem aoJ(h:p:=by rw [<- hT];exact qf.cell h rfl):p:=h
theorem oQ(h:p:=by show 1 < _;omega):p:=h
theorem mV(h:p:=by rw [HG.out]):p:=h
theorem aoK(h:p:=by rw [<- Tf] at hb;exact hb):p:=h
theorem jQ(h:p:=by cases hx):p:=h
theorem an_(h:p:=by simp;have:=hb.size;omega):p:=h
theorem aoD(h:p:=by rw [hW2];simp [World.at,Tf]):p:=h
theorem kW(h:p:=by simp [cnt]):p:=h
theorem oV(h:p:=by rw [rZ,rZ];omega):p:=h
theorem n_(h:p:=by unfold T6;go_simp):p:=h
theorem aob(h:p:=by simp only [World.cell?,hz]):p:=h
theorem jP(h:p:=by rw [e]):p:=h
theorem ap8(h:p:=by have:=(hcm.gm.own i hi b hb').1;have:=hcm.gm.hW;omega):p:=h
theorem ap9(h:p:=by have:=(hcm.gm.own i hi b hb').1;have:=hcm.gm.hC;omega):p:=h
theorem apM(h:p:=by rw [Deaf_other t (by omega) _ g_of_ofEvents,h.deaf0]):p:=h
theorem apS(h:p:=by rw [<- Nat.succ_mul];exact Nat.mul_le_mul_right s hi):p:=h
theorem an5(h:p:=by unfold wgBlock;trivial):p:=h
theorem an8(h:p:=by simpa [pend] using hwg):p:=h
theorem aps(h:p:=by rw [show b=2 ^ k from hbk];exact Nat.one_le_two_pow):p:=h
theorem aoA(h:p:=by rw [hm.tt];exact hm.small):p:=h
theorem apT(h:p:=by rw [<- Nat.succ_mul];exact Nat.mul_le_mul_right s h):p:=h
theorem oG(h:p:=by simp at h1;omega):p:=h
theorem apG(h:p:=by rw [List.mem_singleton] at hb;subst hb;exact hF.mj):p:=h
theorem apg(h:p:=by simp only [G,stepG,stepG.exec,he,Option.elim];rfl):p:=h
theorem og(h:p:=by simpa using hf):p:=h
theorem oh(h:p:=by simpa using he'):p:=h
theorem oq(h:p:=by simpa using h):p:=h
theorem aoh(h:p:=by simp [World.frozen?,h1]):p:=h
theorem aoj(h:p:=by simp [Region.wanted,hg]):p:=h
theorem aor(h:p:=by rw [o.cellAt p hp];simp):p:=h
theorem aoI(h:p:=by rw [Bl f];exact tH f 0):p:=h
theorem ap5(h:p:=by have:=NY u 4 (a+2+k);rw [hz] at this;exact this):p:=h
theorem aod(h:p:=by simp [h.size];omega):p:=h
theorem aop(h:p:=by rw [t1];exact hag p hp):p:=h
theorem aox(h:p:=by rw [hz2];simp;omega):p:=h
theorem ap3(h:p:=by have:=Vc_upd D (⟨1,q,1⟩:WD) hi;have:=hq0 q;omega):p:=h
theorem apa(h:p:=by unfold Fg;exact Nat.div_eq_of_lt (by omega)):p:=h
theorem mJ(h:p:=by simp at he):p:=h
theorem aon(h:p:=by rw [upd_same];simp):p:=h
theorem aoQ(h:p:=by cases hp;exact h4 rfl):p:=h
theorem apn(h:p:=by show w.heap.size < w.heap.size+2;omega):p:=h
theorem apo(h:p:=by rw [uw];exact List.mem_singleton.2 rfl):p:=h
theorem apB(h:p:=by rw [get_map_set _ _ _ _ (by omega),ha];rfl):p:=h
theorem aof(h:p:=by simp [deafBehind]):p:=h
theorem aoi(h:p:=by simp [Trace.g?,ho]):p:=h
theorem apk(h:p:=by simp [MemAct.ofEvent,MemAct.touch?] at hx):p:=h
theorem apl(h:p:=by simp [List.map_map,Function.comp_def]):p:=h
theorem aos(h:p:=by rw [o.1];exact hp):p:=h
theorem apY(h:p:=by have:=hMr _ ((g3 _ h).2 (by omega));omega):p:=h
theorem aov(h:p:=by rw [hτ p hp1 hp2,t1]):p:=h
theorem pq(h:p:=by rw [e];rfl):p:=h
theorem apQ(h:p:=by rw [<- eL1,List.length_append];omega):p:=h
theorem an6(h:p:=by simpa using hlen):p:=h
theorem ao9(h:p:=by unfold Jf;rw [if_neg (fun x=>hjn x.1)]):p:=h
theorem ap4(h:p:=by have:=UInt8.lt_iff_toNat_lt.1 h';omega):p:=h
theorem an7(h:p:=by simpa using h.size):p:=h
theorem an9(h:p:=by simpa [NS] using h):p:=h
theorem apf(h:p:=by simp only [G,stepG,stepG.exec,he];rfl):p:=h
theorem oH(h:p:=by simp [ry]):p:=h
theorem apJ(h:p:=by rw [List.length_append,hpl];omega):p:=h
theorem aoO(h:p:=by have:=OB 1 x;omega):p:=h
theorem pO(h:p:=by exact hot):p:=h
theorem pR(h:p:=by exact hB0):p:=h
theorem apN(h:p:=by rw [BL,List.append_nil];exact Gq):p:=h
theorem apc(h:p:=by simpa using hs.str 0 (.order fn id)):p:=h
theorem oI(h:p:=by simp [part]):p:=h
theorem apv(h:p:=by rw [if_neg (by omega),Nat.sub_zero]):p:=h
theorem o_(h:p:=by rw [hd];rfl):p:=h
theorem apH(h:p:=by rw [List.length_take] at hm;omega):p:=h
theorem apw(h:p:=by rw [hh];exact hown.mono (by omega)):p:=h
theorem apU(h:p:=by have:=of_decide_eq_false hlt;omega):p:=h
theorem ap_(h:p:=by have:=(H.own.lt h e'.symm).1;omega):p:=h
theorem pU(h:p:=by exact g2):p:=h
theorem oJ(h:p:=by simp [hp]):p:=h
theorem aoe(h:p:=by simp [go_sem]):p:=h
theorem aoC(h:p:=by rw [hh];exact hb):p:=h
theorem apy(h:p:=by rw [h2.size,g2.size];exact g3):p:=h
theorem apP(h:p:=by rw [<- hS];simp only [KK];omega):p:=h
theorem apV(h:p:=by have:=hx3.lt;show 1 < _;omega):p:=h
theorem apX(h:p:=by have:=hb2.size;have:=I.size;omega):p:=h
theorem apu(h:p:=by rw [ofEvent_loc_mark h1];rfl):p:=h
theorem aou(h:p:=by rw [hτ p hp2,t1]):p:=h
theorem apz(h:p:=by rw [h1];exact hτ p (by omega) hp2):p:=h
theorem apW(h:p:=by have:=hg.lo;have:=hF.bs.hC;omega):p:=h
theorem ap1(h:p:=by have:=h.lj;have:=h.sf.sb.1;omega):p:=h
theorem pV(h:p:=by cases hg):p:=h
theorem apb(h:p:=by subst e;exact ⟨h1.drew m,h2.drew m⟩):p:=h
theorem aoq(h:p:=by rw [rY];omega):p:=h
theorem apI(h:p:=by rw [List.length_append];omega):p:=h
theorem ap2(h:p:=by have:=h.1;rw [rH] at this;omega):p:=h
theorem apd(h:p:=by simpa [World.setCell] using h3):p:=h
theorem ape(h:p:=by simp only [lt] at g1;simp [g1]):p:=h
theorem apA(h:p:=by rw [h i (List.mem_range.1 hi)]):p:=h
theorem apO(h:p:=by rw [Array.size_push];omega):p:=h
theorem ap0(h:p:=by have:=hB.row.lt;simp;omega):p:=h
theorem ap6(h:p:=by have:=(o4.lt h e.symm).1;omega):p:=h
theorem ap7(h:p:=by have:=(hown'.lt g hg').1;omega):p:=h
theorem ao_(h:p:=by unfold Frame.catches;rw [hfn]):p:=h
theorem aog(h:p:=by simp [cnt,hst]):p:=h
theorem apj(h:p:=by simp [World.cell?,h1,h2,hidx]):p:=h
theorem aot(h:p:=by rw [if_pos hj]):p:=h
theorem aoz(h:p:=by rw [hr,h1];rfl):p:=h
theorem apF(h:p:=by rw [e];exact hO.block j hj hn):p:=h
theorem apK(h:p:=by rw [KQ n 0 a hn,Nat.zero_add]):p:=h
theorem apZ(h:p:=by have:=hF.lo;have:=hb.hC;omega):p:=h
theorem aoP(h:p:=by exact hnews):p:=h
theorem apm(h:p:=by simp [Extern.Race.none_]):p:=h
theorem apx(h:p:=by rw [hg] at lt2;exact lt2):p:=h
theorem apL(h:p:=by rw [HS.out,HM.out];omega):p:=h
theorem apR(h:p:=by rw [<- Tc];exact (hd t ht).2):p:=h
theorem aqb(h:p:=by simpa using this):p:=h
theorem aqc(h:p:=by go_simp;exact hKq):p:=h
theorem aqd(h:p:=by go_wp2;go_ret;exact⟨rfl,rfl⟩):p:=h
theorem aqe(h:p:=by exact(wJ he hn).elim):p:=h
theorem aqf(h:p:=by cases h;cases h4):p:=h
theorem aqg(h:p:=by intro K hK;skip;go_simp;exact hK):p:=h
theorem aqh(h:p:=by go_wp2;go_ret;exact⟨rfl,nq,rfl⟩):p:=h
theorem aqi(h:p:=by go_ret;exact⟨rfl,rfl⟩):p:=h
theorem aqj(h:p:=by exact .inr (.inl h)):p:=h
theorem aqk(h:p:=by rw[ah ae]at this;exact this):p:=h
theorem aql(h:p:=by exact⟨rfl,_,resultsC_tmp ax _,N,rfl,hF⟩):p:=h
theorem aqm(h:p:=by rw[he];exact⟨_,rfl⟩):p:=h
theorem aqn(h:p:=by rw[eA];simp only[stepG.apply,aF,hrun',GStep.after];rfl):p:=h
theorem aqo(h:p:=by rw[hz1]at this;simp only[gy]at this;exact this):p:=h
theorem aqp(h:p:=by go_ret;exact⟨g1,rfl,g2⟩):p:=h
theorem aqr(h:p:=by go_ret;exact wI.D8 ⟨_,rfl,g1,g2⟩):p:=h
theorem aqs(h:p:=by rcases H.own.2 with⟨rfl,rfl⟩|⟨g,cap,_,rfl,_⟩<;>exact⟨_,_,rfl⟩):p:=h
theorem aqt(h:p:=by exact bI λ_ _=>⟨rfl,rfl⟩):p:=h
theorem aqu(h:p:=by dsimp only at this;omega):p:=h
theorem aqv(h:p:=by simp only[Frame.enter,g1,eQ,g3,aB,dV]at hx;subst hx;exact g4):p:=h
theorem aqw(h:p:=by cases u<;>first|exact .inr λ_=>rfl|exact .inl λ_=>rfl):p:=h
theorem aqx(h:p:=by rw[hW2];exact(qH.alloc (o:=wgBlock link.tWg 0 0) (hW1.at dd) an5).at d'):p:=h
theorem aqy(h:p:=by have:W.heap.size=v0.heap.size:=hs0.size;omega):p:=h
theorem aqz(h:p:=by obtain⟨h1,h2⟩:=ih ae;have h3:=qs m;exact⟨aK h1 h3.1,λp hp=>(h3.2.1 p ae).trans (h2 p hp)⟩):p:=h
theorem aqA(h:p:=by show(if p<s.u.drawn then _ else _)=_;rw[aj hp]):p:=h
theorem aqB(h:p:=by exact((mono _ n hle).2 p hc).symm):p:=h
theorem aqC(h:p:=by obtain⟨cs',t',fr',h1,h2⟩:=xk.doc b hb;obtain rfl:=xk.unf b _ _ _ hb h2;exact⟨cs',t',(Py b (hXC b hb).1 (hXC b hb).2).trans h1⟩):p:=h
theorem aqD(h:p:=by rw[upd_same]at this;simpa using this):p:=h
theorem aqE(h:p:=by refine iQ λhd=>hno ⟨d,λg' w' es h1 h2 h3=>hd ⟨g',w',es,h1,h2,h3⟩⟩):p:=h
theorem aqF(h:p:=by exact r_ hD (yw hD (Hl hD (hnext _ (aa6 rfl))))):p:=h
theorem aqG(h:p:=by go_ret2;exact⟨by first|rfl|(congr 3;simp;omega),_,rfl⟩):p:=h
theorem aqH(h:p:=by obtain rfl:n=m+1:=ae;exact⟨ak _,λ_ _=>rfl⟩):p:=h
theorem aqI(h:p:=by exact hnext _ ⟨_,N9 rfl⟩):p:=h
theorem aqJ(h:p:=by go_wp2;go_ret;exact⟨rfl,yf rfl HF.out⟩):p:=h
theorem aqK(h:p:=by exact hk' b c ty fz (λhh=>hh.elim hx ae) ((Py b ae ae).trans (BJ xk hx h3))):p:=h
theorem aqL(h:p:=by go_wp2;go_ret;exact⟨rfl,0,rfl⟩):p:=h
theorem aqM(h:p:=by rw[ah ae,show s.u.drawn+i-s.u.drawn=i by omega]):p:=h
theorem aqN(h:p:=by rw[hW2,<-Tf];exact dM (W1.at dd) _):p:=h
theorem aqO(h:p:=by rw[hW2];exact bK (W1.at dd) _ b aoK):p:=h
theorem aqP(h:p:=by rename_i hs;cases h;exact GZ hs h4):p:=h
theorem aqQ(h:p:=by simp only[BX,LV]at ho;cases ho;exact hall _ (nK.2 (dV.2 rfl)) rfl):p:=h
theorem aqR(h:p:=by have:=aP List.length h2;simp at this;exact this):p:=h
theorem aqS(h:p:=by obtain⟨c1,t1,f1,e1,e2⟩:=xk.doc b hx;obtain⟨c2,t2,f2,e3,e4⟩:=hs3.doc b (.inl hx);rw[Py b ae ae,e1]at e3;rw[e2]at h3;cases e3;cases h3;exact e4):p:=h
theorem aqT(h:p:=by go_ret;exact⟨rfl,hfin,ae7⟩):p:=h
theorem aqU(h:p:=by refine r_ rM ?_;exact hnext _ ⟨_,N9 rfl⟩):p:=h
theorem aqV(h:p:=by have:=iZ (P:=Tryz.prog) w 34 5 i0 (.int .u8 0) Tryz.underlying34 hi hz0 .i64 .i64 (L:Int) (L:Int) ae ae fO ae;rw[hz1,show(Value.int .u8 0).cells=#[.int .u8 0]from rfl]at this;simpa using this):p:=h
theorem aqW(h:p:=by simp only[ah e3,ah (show¬x+1<=m by omega),ah (show¬x+1=m+1 by omega)];exact⟨ae,ae,ae,ae⟩):p:=h
theorem aqX(h:p:=by have o1:W4.output=v'.output:=JH.out;have o3:W3.output=v'.output:=hs3.out;have o4:W3.output=W2.output:=ho;have o5:W2.output=W1.output:=kZ;have o6:W1.output=v3.output:=hs1'.out;have o7:v3.output=v0.output:=L_.output;have o10:W.output=v0.output:=hs0.out;rw[o1,<-o3,o4,o5,o6,o7,o10]):p:=h
theorem aqY(h:p:=by simp only[le];rw[uh ae,uh ae,uh ae,uh ae];simp only[fG,aS,dB]):p:=h
theorem aqZ(h:p:=by obtain⟨b,wr,rfl,hlt,_⟩:=hD.evs e he;exact TI _ _ hlt):p:=h
theorem aq0(h:p:=by simp only[<-(show b=2^k from hbk)]at this;omega):p:=h
theorem aq1(h:p:=by rw[this];refine hK a' v' s.w hq ?_;rw[<-h3];exact hi.QX.to τ s.u.drawn):p:=h
theorem aq2(h:p:=by have:=hD.frame Wg hWs (by rw[xm];exact afj) (dh hcm.gm.hCW);exact hwg.of_block this):p:=h
theorem aq3(h:p:=by simp only[aj e];exact⟨hx,hx,trivial,trivial⟩):p:=h
theorem aq4(h:p:=by have hbC:=hlow b ae;have a1:W4.heap[b]?=W3.heap[b]?:=vY.agree hs3 JH (λhh=>hh.elim hx ae) rfl;have a2:=Py b ae ae;have a3:=hl2 b ae;have a4:W1.heap[b]?=W.heap[b]?:=vY.agree hs0 hs1' hx (L_.blk ae);rw[a1,a2,a3,a4]):p:=h
theorem aq5(h:p:=by refine up (hs.ab3 hc).1 ae ?_;have e1:W'.heap[b]?=W.heap[b]?:=hF.low.Py b ae ae h';have e2:=JI hs hc;simp only[World.cell?,e1]at e2⊢;exact e2):p:=h
theorem aq6(h:p:=by have:=h3 (j+1) ae;rw[show a+1+j=a+(j+1)by omega,this];simp):p:=h
theorem aq7(h:p:=by have:=anG (a:=b) (b:=d) (i:=1);simpa[anH]using this):p:=h
theorem aq8(h:p:=by exact⟨_,_,rfl,hpt,J,hJ',by rcases hblk2 with e|e;exact .inl e;exact .inr ⟨_,e,ak _⟩⟩):p:=h
theorem aq9(h:p:=by exact⟨rfl,f',H,hR,OT hu (λh=>absurd h h0),hb⟩):p:=h
theorem aq_(h:p:=by simp[results,h,hp',asAddr,pW w g et ty cs fr d hg hu hd hi]):p:=h
theorem ara(h:p:=by unfold wH qf at*;rw[hg.block rb akh (λe=>hT e.symm)];exact I.rd):p:=h
theorem arb(h:p:=by simp only[Go.ConcR.ofEvent_loc_mark h1]at hx;cases hx):p:=h
theorem arc(h:p:=by obtain⟨s,t,vN,vS,I,_⟩:=n2;exact H_ n1 I.rd au):p:=h
theorem ard(h:p:=by obtain⟨arr,h1,h2⟩:=hF.pay;exact⟨arr[idx]' ae,apj,aoh⟩):p:=h
theorem arf(h:p:=by exact⟨rfl,f',_,H3,VU,hp3,hbw.trans ((hb3.below hB2 (λg hg'=>ap7)).mono (iI hlow)),aK hB2 hb3.size⟩):p:=h
theorem arh(h:p:=by obtain⟨h1,h2⟩:=h.o1 m i hm;exact⟨ae,h2⟩):p:=h
theorem ari(h:p:=by have:∀k:Fin 9,2^k.val<=256:=au;rw[show b=2^k from hbk];exact this ⟨k,ae⟩):p:=h
theorem arj(h:p:=by have o1:W4.os=v'.os:=JH.os;have o3:W3.os=v'.os:=hs3.os;have o4:W3.os=W2.os:=hos;have o5:W2.os=W1.os:=kZ;have o6:W1.os=v3.os:=hs1'.os;have o7:v3.os=v0.os:=L_.os;have o10:W.os=v0.os:=hs0.os;rw[o1,<-o3,o4,o5,o6,o7,o10]):p:=h
theorem ark(h:p:=by obtain rfl:j=a.length:=ae;have hnl:¬((a.length:Int)<(a.length:Int)):=ae;have hd:decide (a=b)=true:=ik (Ur hn hsame);go_wp2;go_ret;exact⟨by first|rfl|(rw[hd];rfl),hw⟩):p:=h
theorem arl(h:p:=by rw[hpe];show W.heap[C]?=_;exact BJ hs (λhx=>by have:=hX C hx;omega) hP.pay):p:=h
theorem arn(h:p:=by obtain⟨r,hr,hrs⟩:=h.rel i' hl' hi' hst;exact⟨r,hr.appOther g_of_ofEvents ae,hrs⟩):p:=h
theorem aro(h:p:=by go_ret;have hb5:Below w3.heap.size w3 w5:=(hb.alloc hb.size _).trans (g2.mono an_);obtain⟨z1,z2⟩:=MP hA3 VU hb5;refine⟨z1,z2,?_⟩;rw[HB.out];exact⟨_,rfl,g1⟩):p:=h
theorem arp(h:p:=by obtain⟨N',e,hm,_⟩:=hwp;cases e;exact rD (w:=w₁) (w':=w₁.setCell _ _) rfl dJ hm):p:=h
theorem arq(h:p:=by simp only[aj e3,ah (show¬m+1<=m by omega),aF];exact⟨ae,ae,ae,ae⟩):p:=h
theorem ars(h:p:=by obtain⟨N',e,_,_,hh⟩:=hwp;cases e;exact(bG _ _ _ _ hN).trans hh):p:=h
theorem art(h:p:=by have hot:=I.ot;have hne:=tq I.ot I.rd au;unfold OwnB at hot;obtain⟨g,c,e,_,_,_,_,hB⟩:=yU hot ae;rw[eT]at e hne;cases e;exact⟨g,0,rfl,hB,λe=>hne pq⟩):p:=h
theorem aru(h:p:=by obtain⟨T,s0,j,ops,h1,h2,h3,h4⟩:=h;exact⟨T,s0,j,ops,h1,h2,h3.rely r,h4⟩):p:=h
theorem arv(h:p:=by show((w.heap.push _).push _)[w.heap.size]?=_;rw[gz,ah apO,gz,aj rfl]):p:=h
theorem arw(h:p:=by have:=zC ns hok.2.1 ns.length (ak _);rw[I9,em]at this;omega):p:=h
theorem arx(h:p:=by refine⟨by split<;>omega,by split<;>omega,λ_=>?_⟩;omega):p:=h
theorem ary(h:p:=by exact(hbw.mono (iI hlow)).setCell (p:=⟨h,0,none⟩) (ak _) _):p:=h
theorem arz(h:p:=by subst et;simp only[aO,aY hlt,aY (show t<b.length by omega),aB]at e⊢;rw[e]):p:=h
theorem arA(h:p:=by rw[e]at hr;cases hr;exact⟨_,rfl,by rw[hτ];exact hS (j,x) h1⟩):p:=h
theorem arB(h:p:=by rw[hi]at hg';cases hg';rcases hs.status with h|h<;>rw[h]<;>simp):p:=h
theorem arC(h:p:=by have I3:=(I2.acY hlB hbB hlb (S+z)).afT hlB hbB hlb (a+(k+6));go_ret;refine⟨rfl,I3.but,_,_,⟨?_,I3.on,I3.os,I3.ap,I3.EW,I3.size⟩⟩;have hl:=I3.ls;rw[EN.out,iw,ES.out,show a+(6+k)=a+(k+6)by omega];simpa using hl):p:=h
theorem arD(h:p:=by rw[Hu];generalize Sem.run p _ w=r;cases r<;>rfl):p:=h
theorem arE(h:p:=by rw[hsz];simp only[Result.andThen,sliced,gy,ja];rw[ah ae];simp[Em]):p:=h
theorem arF(h:p:=by refine⟨g1.trans h1,ae,λτ hτ=>?_⟩;rw[e,h3 τ λp hp1 hp2=>hτ p hp1 ae];exact g3 τ λp hp1 hp2=>apz):p:=h
theorem arG(h:p:=by rw[aj (show(w.out x).frozen? a=true from hz),aj hz];rfl):p:=h
theorem arH(h:p:=by rw[Deaf_other t ae _ g_of_ofEvents,h.deafW i' hi',upd_ne D _ e]):p:=h
theorem arI(h:p:=by show w'.tape (d+i) q=w'.tape (d+(v'.drawn+i-v'.drawn)) q;rw[gX]):p:=h
theorem arJ(h:p:=by dsimp only;rw[h1];dsimp only;rw[h2,hne,h4,h5];exact hQ):p:=h
theorem arK(h:p:=by exact absurd (u_ he hn) (Qs (F:=F) n _ s.r ch _ _ [f0] v' (Hm hi.stack) rfl ⟨hi.tf.fn,hi.tf.defers⟩ rfl)):p:=h
theorem arL(h:p:=by rw[bQ]at e;obtain⟨j',hj',rfl⟩:=bU.1 e;obtain⟨h1,rfl⟩:=DN hj';exact⟨h1,rfl⟩):p:=h
theorem arM(h:p:=by exact hR'.trans (qK.tail (m:=m+1) (o:=λx=>if x=m then fh 0 else out x) hR2 ae)):p:=h
theorem arN(h:p:=by show stepG P true _ (w.at d')=_;rw[eA,h1];simp only[doReturn,GStep.after];rfl):p:=h
theorem arO(h:p:=by intro u hu;simp at hu;rcases hu with rfl|rfl<;>rfl):p:=h
theorem arP(h:p:=by go_ret;exact⟨by rw[Oc,h1,h2,h3,h4];rfl,below_drewN b1 _⟩):p:=h
theorem arQ(h:p:=by subst hji;exact YieldsIfC.opX hSR hi hy (hK _ _ _) hS ⟨λ_=>hS,H⟩):p:=h
theorem arR(h:p:=by exact .inr (.inr ⟨G f' cs,v,#[],w,key v,⟨rfl,ak _,λτ _=>key _⟩,hs,ak _,λe he=>mJ,.here rfl hT hm λK cs2 hk=>h K cs2 w hk⟩)):p:=h
theorem arS(h:p:=by simp[execOp,hop,resolve,invoke,builtin,hs,hx,hr,Result.andThen];exact hK v' w' r1 r2 r4):p:=h
theorem arT(h:p:=by rcases hown.2 with⟨rfl,rfl⟩|⟨g,cap,_,rfl,_⟩<;>exact⟨_,_,rfl⟩):p:=h
theorem arU(h:p:=by refine⟨⟨hf,rfl,ha,rfl,[],λx hx=>aok,DL.nil⟩,.inl rfl,trivial,hs.to v.tape 0,λτ _=>?_,hno⟩;obtain⟨e,a',v',hq,harr⟩:=h τ 0 (base fn) [] [f0];obtain⟨rfl,_⟩:=hQ _ _ _ hq;obtain⟨n,hn⟩:Steps P (lone ((base fn).at a [.code c]) [f0] {v with tape:=τ,drawn:=0}) (lone ((base fn).at a' []) [f0] v'):=harr;exact⟨n,a',v',hn,hq⟩):p:=h
theorem arV(h:p:=by refine late (Fin:=Fin) (Shun:=uj X3) (e:=e3) hpre (λ_ _ _ h=>h) (λgs4 a4 W4 sl4 t4 q4 h04 hst hB4=>?_) (UC W3 hs3) W3.drawn gs3 sl3 t3 q3 h03 hB3;obtain⟨y,v4,b1,b2,rfl,b3⟩:=hst W4.drawn;exact fin y v4 b1 b2 gs4 W4 sl4 t4 q4 h04 hB4 b3):p:=h
theorem arW(h:p:=by have h:(b^^^d)%2^1=(b%2^1)^^^(d%2^1):=aoS;rw[Nat.pow_one]at h;rw[h];have h1:b%2=0\/b%2=1:=ae;have h2:d%2=0\/d%2=1:=ae;rcases h1 with h1|h1<;>rcases h2 with h2|h2<;>rw[h1,h2]<;>rfl):p:=h

import GoSem.Machine.Exec
import Derived.KernelRfl
import Derived.Tactics
import Derived.IntWalk
import Derived.Below
import Derived.Conc.Own
import Derived.Laws.AppendOwn
import Derived.Conc.Company
import Derived.Laws.Rows
import Derived.OwnWalk
import Derived.Laws.BitsLemmas
import Derived.Laws.World
import Derived.Laws.MakeOwn
import Derived.LoopN
abbrev ak:=@Nat.le_refl
abbrev ah:=@if_neg
abbrev aB:=@Option.getD_some
abbrev aO:=@List.getD_eq_getElem?_getD
abbrev aj:=@if_pos
abbrev aK:=@Nat.lt_of_lt_of_le
abbrev aH:=@Go.Conc.stepG_region_end
abbrev aS:=@List.length_append
abbrev aA:=@Go.RowKit.Below.refl
abbrev bf:=@Array.getElem?_eq_some_iff
abbrev ay:=@Go.Conc.Goes.step
abbrev a_:=@List.getElem?_eq_getElem
abbrev aJ:=@Nat.le_trans
abbrev aC:=@Go.Conc.stepG_seq
abbrev aG:=@Go.Conc.Terms.idle
abbrev aV:=@List.cons_append
abbrev aQ:=@Nat.lt_or_ge
abbrev bu:=@Bool.false_eq_true
abbrev aT:=@Nat.zero_add
abbrev bF:=@Go.RowKit.Below.heap_setCell
abbrev aZ:=@Nat.mod_eq_of_lt
abbrev bg:=@List.nil_append
abbrev bT:=@Option.map_eq_some_iff
abbrev aF:=@if_true
abbrev b_:=@Array.replicate_zero
abbrev cu:=@Array.replicate_succ
abbrev bY:=@List.append_toArray
abbrev dS:=@List.getElem?_eq_some_iff
abbrev aP:=@congrArg
abbrev aI:=@Go.Conc.goes_go
abbrev dF:=@Go.RowKit.ownsRow_setCell_below
abbrev bM:=@Go.RowKit.Below.heap_alloc
abbrev bQ:=@List.length_cons
abbrev bU:=@List.push_toArray
abbrev bV:=@List.getElem?_map
abbrev dh:=@Go.World.ownsRow_nil
abbrev bJ:=@Nat.xor_assoc
abbrev aU:=@if_false
abbrev fF:=@List.getElem?_append_left
abbrev dm:=@Nat.lt_succ_self
abbrev eG:=@Array.mem_of_getElem?
abbrev dB:=@List.length_nil
abbrev dK:=@Nat.eq_zero_or_pos
abbrev dG:=@Go.wpList_append_own
abbrev bG:=@Go.info_parts
abbrev dC:=@List.range_succ
abbrev dD:=@List.append_nil
abbrev dR:=@List.mem_singleton
abbrev dW:=@UInt8.toNat_ofNat'
abbrev dU:=@List.append_assoc
abbrev aX:=@Go.Conc.opsC_nil
abbrev dw:=@Nat.add_assoc
abbrev dA:=@List.mem_cons
abbrev dY:=@List.size_toArray
abbrev dJ:=@Option.map_some
abbrev gZ:=@Nat.add_sub_cancel_left
abbrev gG:=@List.getElem?_eq_none
abbrev gK:=@Array.getElem?_modify
abbrev dP:=@decide_eq_false
abbrev dZ:=@Go.IntKind.wrap_i64
abbrev jr:=@Array.getElem?_setIfInBounds_ne
abbrev cO:=@Go.Conc.stepG_region
abbrev bI:=@Go.Conc.Goes.stop
abbrev eQ:=@Go.World.ownsRow.lt
abbrev iW:=@List.getElem?_append_right
abbrev dO:=@Go.heap_alloc_new
abbrev dV:=@Go.IntWalk.i64_in
abbrev aY:=@Go.Conc.wpC_seq
abbrev gJ:=@Array.getElem?_push
abbrev ja:=@Classical.byContradiction
abbrev eU:=@Option.some.inj
abbrev fB:=@Option.bind_some
abbrev fG:=@Bool.and_eq_true
abbrev bK:=@Go.Conc.Goes.rely
abbrev iF:=@List.take_of_length_le
abbrev gz:=@Nat.add_sub_cancel
abbrev iw:=@UInt8.lt_iff_toNat_lt
abbrev iU:=@List.getElem?_cons_zero
abbrev iV:=@List.getElem?_cons_succ
abbrev gp:=@of_decide_eq_true
abbrev gy:=@Option.some.injEq
abbrev gI:=@Int.toNat_natCast
abbrev dQ:=@Go.Loc.cell.inj
abbrev gB:=@List.length_take
abbrev gY:=@decide_eq_true_eq
abbrev dX:=@Nat.le_of_eq
abbrev kY:=@Array.all_eq_true_iff_forall_mem
abbrev iC:=@Nat.xor_lt_two_pow
abbrev fK:=@List.mem_range
abbrev iR:=@List.mem_of_getElem?
abbrev fE:=@List.map_cons
abbrev eX:=@Nat.mul_comm
abbrev eY:=@Nat.add_zero
abbrev fA:=@List.mem_map
abbrev g_:=@List.length_drop
abbrev kR:=@List.eq_nil_of_length_eq_zero
abbrev fD:=@Nat.succ_mul
abbrev iL:=@of_decide_eq_false
abbrev iP:=@Nat.lt_of_le_of_lt
abbrev jh:=@Nat.pow_le_pow_right
abbrev ji:=@Nat.mul_le_mul_right
abbrev kW:=@Array.getD_eq_getD_getElem?
abbrev dM:=@Go.Conc.stepG_skip
abbrev fH:=@Nat.zero_mul
abbrev iY:=@List.ext_getElem?
abbrev jQ:=@Array.getElem?_eq_none
abbrev gX:=@Go.size_madeCells
abbrev fC:=@Nat.zero_le
abbrev iG:=@List.sum_append
abbrev iH:=@List.map_append
abbrev kV:=@Array.getElem?_eq_getElem
abbrev iZ:=@List.all_eq_true
abbrev iq:=@decide_eq_true
abbrev gu:=@Go.bodyPost_ret
abbrev kC:=@Option.bind_eq_some_iff
abbrev di:=@Ne.symm
abbrev kN:=@List.length_eq_zero_iff
abbrev jq:=@List.flatten_cons
abbrev iT:=@List.length_map
abbrev iI:=@Bool.not_true
abbrev f_:=@Go.rounds_succ
abbrev fJ:=@Nat.mod_lt
abbrev jI:=@Go.heap_setCell_other
abbrev iy:=@Nat.xor_self
abbrev iE:=@Nat.le_of_lt
abbrev kH:=@List.mem_cons_of_mem
abbrev jH:=@Go.heap_setCell_same
abbrev ku:=@Go.World.cell?_alloc_lt
abbrev kK:=@List.length_pos_iff
abbrev jM:=@List.nodup_range
abbrev iD:=@Nat.mul_one
abbrev iM:=@Nat.xor_comm
abbrev iO:=@Nat.pow_succ
abbrev iQ:=@Nat.add_comm
abbrev kQ:=@List.getElem?_take
abbrev kX:=@Array.ext_getElem?
abbrev jJ:=@Nat.one_ne_zero
abbrev oz:=@Array.getElem?_setIfInBounds
abbrev jk:=@List.sum_cons
abbrev d_:=@Fin.ext
abbrev nH:=@Nat.shiftRight_xor_distrib
abbrev jK:=@Nat.mul_le_mul
abbrev jP:=@Array.mem_push
abbrev jm:=@List.map_nil
abbrev jo:=@List.map_map
abbrev nI:=@Nat.shiftRight_eq_div_pow
abbrev l_:=@Nat.mul_le_mul_left
abbrev mi:=@List.map_congr_left
abbrev mD:=@List.getElem?_range
abbrev mG:=@List.flatMap_append
abbrev nD:=@Go.World.cell?_setCell_other
abbrev nX:=@List.find?_range_eq_some
abbrev jO:=@Bool.false_or
abbrev kJ:=@List.mem_append
abbrev kU:=@Bool.or_eq_true
abbrev kG:=@List.take_zero
abbrev mr:=@List.getElem?_set
abbrev kS:=@List.drop_zero
abbrev n_:=@List.drop_of_length_le
abbrev mM:=@Array.size_append
abbrev ou:=@Array.mem_iff_getElem?
abbrev jW:=@Go.wp_loop_rounds
abbrev nS:=@List.take_append_drop
abbrev nU:=@List.getElem?_toArray
abbrev mf:=@Nat.div_eq_of_lt
abbrev mO:=@Array.mem_append
abbrev nN:=@Nat.eq_of_testBit_eq
abbrev at7:=@List.take_append_of_le_length
abbrev lX:=@Go.World.size_alloc
abbrev nC:=@beq_eq_false_iff_ne
abbrev nG:=@Option.bind_eq_bind
abbrev nP:=@List.take_succ_cons
abbrev nZ:=@List.drop_succ_cons
abbrev kD:=@Nat.sub_self
abbrev lY:=@UInt8.toNat_lt
abbrev nY:=@List.find?_eq_none
abbrev aui:=@Int.tdiv_eq_ediv_of_nonneg
abbrev oq:=@BitVec.toNat_ofNat
abbrev oG:=@Array.getElem?_map
abbrev ik:=@Go.Conc.wpC_rely
abbrev kF:=@Nat.add_mul
abbrev oh:=@Decidable.not_not
abbrev lZ:=@Prod.mk.injEq
abbrev atT:=@decide_eq_false_iff_not
abbrev nK:=@Nat.le_max_right
abbrev nT:=@List.mem_toArray
abbrev l7:=@Nat.xor_zero
abbrev mg:=@List.sum_nil
abbrev aug:=@List.drop_eq_nil_of_le
abbrev mJ:=@Int.lt_or_le
abbrev auq:=@Array.getElem?_push_lt
abbrev jg:=@Go.run_make
abbrev nz:=@Go.results_cell_row
abbrev nJ:=@Nat.min_eq_left
abbrev nM:=@Nat.le_max_left
abbrev nO:=@Nat.div_add_mod
abbrev at6:=@Nat.div_lt_iff_lt_mul
abbrev aup:=@Array.getElem?_toList
abbrev jZ:=@Go.Conc.stepG_block
abbrev l9:=@Nat.one_mul
abbrev aub:=@List.mem_append_left
abbrev aud:=@List.getElem?_append
abbrev og:=@List.drop_drop
abbrev aun:=@BitVec.ofInt_natCast
abbrev atX:=@Nat.xor_mod_two_pow
abbrev aue:=@List.flatten_append
abbrev lV:=@Go.results_tmp
abbrev atV:=@Go.World.cell?_of_block
abbrev jY:=@Go.Conc.stepG_cond
abbrev auc:=@List.getElem?_drop
abbrev atZ:=@Nat.lt_trichotomy
abbrev auj:=@Function.comp_def
abbrev aul:=@Bool.not_eq_true'
abbrev atU:=@Go.World.size_setCell
abbrev jG:=@Go.Conc.wpC_loop
abbrev aua:=@List.not_mem_nil
abbrev auf:=@List.ext_getElem
abbrev aum:=@BitVec.toNat_xor
abbrev jX:=@Go.Conc.wpC_block
abbrev atW:=@Option.pure_def
abbrev auo:=@Array.size_push
abbrev j_:=@dif_pos
abbrev avc:=@Nat.two_pow_add_eq_or_of_lt
abbrev avd:=@Nat.mod_two_eq_zero_or_one
abbrev atS:=@Go.run_loadVar_row
abbrev avk:=@List.getElem?_eq_none_iff
abbrev auh:=@Go.IntKind.wrap_u8
abbrev avb:=@Option.isSome_iff_exists
abbrev atY:=@Nat.sub_zero
abbrev at1:=@Nat.le_total
abbrev avg:=@Nat.div_div_eq_div_mul
abbrev avi:=@List.reverse_singleton
abbrev auk:=@Bool.true_or
abbrev ave:=@Nat.le_of_ble_eq_true
abbrev avh:=@List.singleton_append
abbrev avl:=@List.filterMap_append
abbrev avn:=@Array.getElem_push_lt
abbrev avj:=@List.mem_of_mem_take
abbrev avm:=@Bool.or_eq_false_iff
abbrev avf:=@Nat.div_eq_of_lt_le
variable {p:Prop}
theorem ae(h:p:=by omega):p:=h
theorem ag(h:p:=by kernel_rfl):p:=h
theorem ai(h:p:=by simp):p:=h
theorem au(h:p:=by decide):p:=h
theorem az(h:p:=by simp;omega):p:=h
theorem ax(h:p:=by rfl):p:=h
theorem bH(h:p:=by unfold maxLen;omega):p:=h
theorem aN(h:p:=by go_simp):p:=h
theorem dE(h:p:=by simp only [EF,P6];rfl):p:=h
theorem dH(h:p:=by simp only [phi];omega):p:=h
theorem lH(h:p:=by rw [eAτ];simp only [stepG.apply,if_true,ht3 τ hτ,GStep.after];rfl):p:=h
theorem fM(h:p:=by simp only [kO4,qk4];rfl):p:=h
theorem gV(h:p:=by rw [IntKind.wrap_i64];omega):p:=h
theorem aW(h:p:=by go_num):p:=h
theorem lJ(h:p:=by rw [eA0];simp only [stepG.apply,if_true,sJ,GStep.after];rfl):p:=h
theorem dI(h:p:=by rw [tu];omega):p:=h
theorem fV(h:p:=by rw [if_neg (by omega)]):p:=h
theorem h_(h:p:=by simp only [dO8,qd8];rfl):p:=h
theorem mZ(h:p:=by rw [show (s.rd vN vS vC vT .nilIface).nx=s.nx from rfl];omega):p:=h
theorem lL(h:p:=by have:=hb.pl;exact Nat.le_trans this (by omega)):p:=h
theorem lQ(h:p:=by have:=hb.ln;exact Nat.le_trans this (by omega)):p:=h
theorem lM(h:p:=by have:=hb.m;exact Nat.le_trans this (by omega)):p:=h
theorem lT(h:p:=by have:=hb.c;exact Nat.le_trans this (by omega)):p:=h
theorem lI(h:p:=by rw [eA0];simp only [stepG.apply,if_true,sJ];rfl):p:=h
theorem fP(h:p:=by simp [intOf];omega):p:=h
theorem iJ(h:p:=by simp only [OB,U0];rfl):p:=h
theorem fQ(h:p:=by simp [Act.eval]):p:=h
theorem jd(h:p:=by simp only [mP3,mq3];rfl):p:=h
theorem je(h:p:=by simp only [enO,qen];rfl):p:=h
theorem fU(h:p:=by rw [wH];omega):p:=h
theorem jv(h:p:=by simp only [aO5,qa5];rfl):p:=h
theorem lG(h:p:=by rw [e] at e';exact Loc.cell.inj e'):p:=h
theorem gU(h:p:=by rw [uI];omega):p:=h
theorem gQ(h:p:=by simpa using h1):p:=h
theorem dL(h:p:=by simp [r_]):p:=h
theorem gW(h:p:=by decide +kernel):p:=h
theorem jw(h:p:=by simp only [UJ,Y_];rfl):p:=h
theorem jy(h:p:=by simp only [RX,YC];rfl):p:=h
theorem iK(h:p:=by simp at hi;omega):p:=h
theorem ig(h:p:=by rw [xm];omega):p:=h
theorem jA(h:p:=by simp at hf ⊢;omega):p:=h
theorem pV(h:p:=by have:=h.hts;simp only [Array.size_append];omega):p:=h
theorem auZ(h:p:=by rw [get_map_set _ _ _ _ (by omega),hx,Option.map_some,woken_quitsD SX]):p:=h
theorem fZ(h:p:=by assumption):p:=h
theorem avV(h:p:=by rw [fin];exact ⟨⟨Gu,Nr⟩,rfl,rfl,rfl,S,two (a:=.inRegion ops _) ho,hS.put fun x hx hd=>by obtain ⟨u',e,h⟩:=Yz (Zu DX hx hd) sJ;cases e;exact h⟩):p:=h
theorem jb(h:p:=by simpa using hj):p:=h
theorem lg(h:p:=by simp only [wO5,qw5];rfl):p:=h
theorem lh(h:p:=by simp only [dO9,qd9];rfl):p:=h
theorem au0(h:p:=by rw [get_map_set _ _ _ _ (by omega),hx,Option.map_some,hsx.woken]):p:=h
theorem fO(h:p:=by simp [mk]):p:=h
theorem eP(h:p:=by cases h):p:=h
theorem avy(h:p:=by simp only [G,stepG,stepG.exec,Bool.not_true,Bool.false_eq_true,if_false,hc,hτ v.drawn (Nat.le_refl _) (Nat.lt_succ_self _)]):p:=h
theorem avU(h:p:=by rw [fin];exact ⟨⟨Gu,Nr⟩,rfl,rfl,rfl,S,two (a:=.inRegion ops _) ho,hS.put fun x hx hd=>by obtain ⟨u',e,h⟩:=Yz (Zu DX hx hd) sJ;cases e⟩):p:=h
theorem jc(h:p:=by simpa using h2):p:=h
theorem o_(h:p:=by show w.heap.size+1≠w.heap.size;omega):p:=h
theorem jT(h:p:=by simp [go_sem, *]):p:=h
theorem pR(h:p:=by intro u hu;simp at hu;subst hu;rfl):p:=h
theorem jS(h:p:=by simp [p];omega):p:=h
theorem jE(h:p:=by simp [h.size]):p:=h
theorem lF(h:p:=by rw [uT hc];omega):p:=h
theorem avH(h:p:=by rw [show stepG P true { frame:=f,callers:=cs,status:=.running,dying:=none } v=_ from he];rfl):p:=h
theorem lU(h:p:=by have:=Z7 k h;omega):p:=h
theorem oL(h:p:=by simp only [lt] at g2;simp [g2]):p:=h
theorem oU(h:p:=by simp [deafBehind,semEvents]):p:=h
theorem oZ(h:p:=by simp [Value.ownBlock];omega):p:=h
theorem pg(h:p:=by show v.heap.size<=lb;omega):p:=h
theorem jB(h:p:=by simp [hx]):p:=h
theorem jD(h:p:=by simp [hj]):p:=h
theorem avJ(h:p:=by rw [show (2:Nat) ^ 32=256 ^ 4 from rfl];exact Nat.pow_le_pow_right (by omega) hn):p:=h
theorem pz(h:p:=by rw [xA];exact Nat.le_refl _):p:=h
theorem auI(h:p:=by show w.heap.size<=w.heap.size+1;omega):p:=h
theorem auX(h:p:=by rw [hi];simp [World.drewN,Nat.add_assoc]):p:=h
theorem kZ(h:p:=by simpa using h):p:=h
theorem auG(h:p:=by simp [Frame.at] at hx;subst hx;exact hc):p:=h
theorem auy(h:p:=by simp only [World.cell?,r.stands hb id]):p:=h
theorem auH(h:p:=by show w.heap.size≠w.heap.size+1;omega):p:=h
theorem awu(h:p:=by exact Nat.lt_of_lt_of_le (by rw [hg] at lt2;exact lt2) (Nat.le_of_lt hgs)):p:=h
theorem auT(h:p:=by rw [hτ p (by omega),t1];exact hag p hp):p:=h
theorem avx(h:p:=by simp only [G,stepG,stepG.exec,Bool.not_true,Bool.false_eq_true,if_false,hc]):p:=h
theorem lu(h:p:=by show _=_;omega):p:=h
theorem ni(h:p:=by intro h;cases h):p:=h
theorem auz(h:p:=by simp only [Sem.runT] at hr;cases hr):p:=h
theorem au3(h:p:=by rw [HS2.out];exact Nat.le_refl _):p:=h
theorem avT(h:p:=by rw [fin];exact ⟨⟨Gu,Nr⟩,rfl,rfl,rfl,S,two (a:=.inRegion ops _) ho,hS.un _⟩):p:=h
theorem mQ(h:p:=by simpa using ht):p:=h
theorem auL(h:p:=by rw [upd_ne D _ e];exact aeo a ha e):p:=h
theorem oK(h:p:=by simpa [Et,uq] using Fj):p:=h
theorem pG(h:p:=by rw [if_pos (by omega)]):p:=h
theorem pU(h:p:=by have:=hlen.out;omega):p:=h
theorem mV(h:p:=by simpa using hi):p:=h
theorem oV(h:p:=by simp [World.putObj]):p:=h
theorem pO(h:p:=by rw [Sem.runT_eq,hr]):p:=h
theorem au9(h:p:=by have:=of_decide_eq_false Nz;omega):p:=h
theorem pW(h:p:=by have:=g1.size;omega):p:=h
theorem pX(h:p:=by have:=I2.size;omega):p:=h
theorem jF(h:p:=by cases he):p:=h
theorem mP(h:p:=by simpa using wP):p:=h
theorem mY(h:p:=by rw [wo];omega):p:=h
theorem au7(h:p:=by have:=of_decide_eq_true qE;omega):p:=h
theorem au8(h:p:=by have:=of_decide_eq_true Nz;omega):p:=h
theorem jR(h:p:=by simp at h):p:=h
theorem mX(h:p:=by simp [r_] at hj):p:=h
theorem avG(h:p:=by rw [vH,List.mem_singleton] at hb;subst hb;exact h.sf.bs.lt h.mj):p:=h
theorem jf(h:p:=by rw [h]):p:=h
theorem auU(h:p:=by rw [hs.size,xn.size];exact hsz):p:=h
theorem m_(h:p:=by rw [hl];omega):p:=h
theorem pJ(h:p:=by rw [h.size];omega):p:=h
theorem au1(h:p:=by rw [List.length_drop];omega):p:=h
theorem au5(h:p:=by rw [<- hT];exact qf.cell h rfl):p:=h
theorem atP(h:p:=by exact Ac.cell rfl):p:=h
theorem lK(h:p:=by rw [K_];rfl):p:=h
theorem pq(h:p:=by show 1 < _;omega):p:=h
theorem ng(h:p:=by rw [HG.out]):p:=h
theorem au6(h:p:=by rw [<- Xy] at hb;exact hb):p:=h
theorem jV(h:p:=by cases hx):p:=h
theorem auw(h:p:=by simp;have:=hb.size;omega):p:=h
theorem lq(h:p:=by simp [cnt]):p:=h
theorem pF(h:p:=by rw [tu,tu];omega):p:=h
theorem oH(h:p:=by unfold T6;go_simp):p:=h
theorem jU(h:p:=by rw [e]):p:=h
theorem au2(h:p:=by rw [K_];simp [World.at,Xy]):p:=h
theorem av6(h:p:=by rw [Deaf_other t (by omega) _ g_of_ofEvents,h.deaf0]):p:=h
theorem awc(h:p:=by rw [<- Nat.succ_mul];exact Nat.mul_le_mul_right s hi):p:=h
theorem aur(h:p:=by unfold wgBlock;trivial):p:=h
theorem auW(h:p:=by rw [hm.tt];exact hm.small):p:=h
theorem awd(h:p:=by rw [<- Nat.succ_mul];exact Nat.mul_le_mul_right s h):p:=h
theorem oM(h:p:=by simp at h1;omega):p:=h
theorem avI(h:p:=by rw [show b=2 ^ k from IG];exact Nat.one_le_two_pow):p:=h
theorem avY(h:p:=by rw [List.mem_singleton] at hb;subst hb;exact hF.mj):p:=h
theorem awq(h:p:=by have:=(sF.gm.own i hi b Ir).1;have:=sF.gm.hW;omega):p:=h
theorem awr(h:p:=by have:=(sF.gm.own i hi b Ir).1;have:=sF.gm.hC;omega):p:=h
theorem auu(h:p:=by simpa [pend] using wP):p:=h
theorem avw(h:p:=by simp only [G,stepG,stepG.exec,he,Option.elim];rfl):p:=h
theorem oI(h:p:=by simpa using hf):p:=h
theorem auD(h:p:=by simp [World.frozen?,h1]):p:=h
theorem auF(h:p:=by simp [Region.wanted,hg]):p:=h
theorem auO(h:p:=by rw [o.cellAt p hp];simp):p:=h
theorem av3(h:p:=by rw [Int.tmod_eq_emod_of_nonneg (by omega)];simp):p:=h
theorem au4(h:p:=by rw [D6 f];exact uF f 0):p:=h
theorem awo(h:p:=by have:=Rn u 4 (a+2+k);rw [hz] at this;exact this):p:=h
theorem auA(h:p:=by simp [h.size];omega):p:=h
theorem auM(h:p:=by rw [t1];exact hag p hp):p:=h
theorem oJ(h:p:=by simpa using Np):p:=h
theorem awm(h:p:=by have:=Vc_upd D (⟨1,q,1⟩:WD) hi;have:=hq0 q;omega):p:=h
theorem avp(h:p:=by unfold GI;exact Nat.div_eq_of_lt (by omega)):p:=h
theorem mW(h:p:=by simp at he):p:=h
theorem auJ(h:p:=by rw [wH];simp;omega):p:=h
theorem auK(h:p:=by rw [upd_same];simp):p:=h
theorem ava(h:p:=by cases hp;exact h4 rfl):p:=h
theorem avE(h:p:=by show w.heap.size < w.heap.size+2;omega):p:=h
theorem avF(h:p:=by rw [vH];exact List.mem_singleton.2 rfl):p:=h
theorem avS(h:p:=by rw [get_map_set _ _ _ _ (by omega),ha];rfl):p:=h
theorem auC(h:p:=by simp [deafBehind]):p:=h
theorem auE(h:p:=by simp [Trace.g?,ho]):p:=h
theorem avA(h:p:=by simp [MemAct.ofEvent,MemAct.touch?] at hx):p:=h
theorem avC(h:p:=by simp [List.map_map,Function.comp_def]):p:=h
theorem auP(h:p:=by rw [o.1];exact hp):p:=h
theorem avL(h:p:=by rw [o2 b (by omega)];exact b1.block b hb):p:=h
theorem pM(h:p:=by rw [e];rfl):p:=h
theorem av9(h:p:=by rw [<- eL1,List.length_append];omega):p:=h
theorem awl(h:p:=by have:=Z7 _ ((g3 _ h).2 (by omega));omega):p:=h
theorem aus(h:p:=by simpa using hlen):p:=h
theorem avo(h:p:=by unfold MV;rw [if_neg (fun x=>hjn x.1)]):p:=h
theorem awn(h:p:=by have:=UInt8.lt_iff_toNat_lt.1 h';omega):p:=h
theorem aut(h:p:=by simpa using h.size):p:=h
theorem auv(h:p:=by simpa [Rh] using h):p:=h
theorem avv(h:p:=by simp only [G,stepG,stepG.exec,he];rfl):p:=h
theorem oO(h:p:=by simp [qU]):p:=h
theorem au_(h:p:=by have:=SK 1 x;omega):p:=h
theorem pY(h:p:=by exact hot):p:=h
theorem auR(h:p:=by rw [hτ p EJ CJ,t1]):p:=h
theorem av2(h:p:=by rw [List.length_append,vP];omega):p:=h
theorem av5(h:p:=by rw [En,List.append_nil];exact Jp):p:=h
theorem avs(h:p:=by simpa using hs.str 0 (.order fn id)):p:=h
theorem oP(h:p:=by simp [part]):p:=h
theorem avM(h:p:=by rw [if_neg (by omega),Nat.sub_zero]):p:=h
theorem pI(h:p:=by rw [hd];rfl):p:=h
theorem avZ(h:p:=by rw [List.length_take] at hm;omega):p:=h
theorem awt(h:p:=by have:=(H.own.lt h e'.symm).1;omega):p:=h
theorem Rt(h:p:=by exact g2):p:=h
theorem ad2(h:p:=by exact NF):p:=h
theorem oQ(h:p:=by simp [hp]):p:=h
theorem auB(h:p:=by simp [go_sem]):p:=h
theorem auY(h:p:=by rw [hh];exact hb):p:=h
theorem avP(h:p:=by rw [h2.size,g2.size];exact g3):p:=h
theorem av8(h:p:=by rw [<- hS];simp only [KK];omega):p:=h
theorem awf(h:p:=by have:=of_decide_eq_false qE;omega):p:=h
theorem avK(h:p:=by rw [ofEvent_loc_mark h1];rfl):p:=h
theorem avN(h:p:=by rw [hh];exact uK.mono (by omega)):p:=h
theorem awe(h:p:=by have:=sZ.size;have:=I.size;omega):p:=h
theorem awg(h:p:=by have:=hg.lo;have:=hF.bs.hC;omega):p:=h
theorem awj(h:p:=by have:=h.lj;have:=h.sf.sb.1;omega):p:=h
theorem awp(h:p:=by have:=NH.lt;show 1 < _;omega):p:=h
theorem atQ(h:p:=by cases hg):p:=h
theorem avr(h:p:=by subst e;exact ⟨h1.drew m,h2.drew m⟩):p:=h
theorem auN(h:p:=by rw [sO];omega):p:=h
theorem avQ(h:p:=by rw [h1];exact hτ p (by omega) CJ):p:=h
theorem av1(h:p:=by rw [List.length_append];omega):p:=h
theorem awk(h:p:=by have:=h.1;rw [sN] at this;omega):p:=h
theorem avt(h:p:=by simpa [World.setCell] using h3):p:=h
theorem avu(h:p:=by simp only [lt] at g1;simp [g1]):p:=h
theorem auS(h:p:=by rw [hτ p CJ,t1]):p:=h
theorem avR(h:p:=by rw [h i (List.mem_range.1 hi)]):p:=h
theorem av7(h:p:=by rw [Array.size_push];omega):p:=h
theorem awi(h:p:=by have:=hB.row.lt;simp;omega):p:=h
theorem aws(h:p:=by have:=(o4.lt h e.symm).1;omega):p:=h
theorem auQ(h:p:=by rw [if_pos hj]):p:=h
theorem auV(h:p:=by rw [hr,h1];rfl):p:=h
theorem avW(h:p:=by rw [e];exact hO.block j hj hn):p:=h
theorem avX(h:p:=by rw [OX n 0 a hn,Nat.zero_add]):p:=h
theorem awh(h:p:=by have:=hF.lo;have:=hb.hC;omega):p:=h
theorem avq(h:p:=by unfold Frame.catches;rw [Nr]):p:=h
theorem avz(h:p:=by simp [World.cell?,h1,h2,akD]):p:=h
theorem avD(h:p:=by simp [Extern.Race.none_]):p:=h
theorem avO(h:p:=by rw [hg] at lt2;exact lt2):p:=h
theorem av4(h:p:=by rw [HS.out,HM.out];omega):p:=h
theorem av_(h:p:=by rw [<- Xx];exact (hd t ht).2):p:=h
theorem awv(h:p:=by go_simp;exact uA):p:=h
theorem aww(h:p:=by simpa using this):p:=h
theorem awx(h:p:=by go_wp2;go_ret;exact⟨rfl,rfl⟩):p:=h
theorem awy(h:p:=by exact(xX he hn).elim):p:=h
theorem awz(h:p:=by intro K hK;skip;go_simp;exact hK):p:=h
theorem awC(h:p:=by cases h;cases h4):p:=h
theorem awD(h:p:=by go_wp2;go_ret;exact⟨rfl,nq,rfl⟩):p:=h
theorem awE(h:p:=by go_ret;exact⟨rfl,rfl⟩):p:=h
theorem awF(h:p:=by exact .inr (.inl h)):p:=h
theorem awG(h:p:=by rw[ah ae]at this;exact this):p:=h
theorem awH(h:p:=by exact⟨rfl,_,resultsC_tmp ax _,N,rfl,hF⟩):p:=h
theorem awI(h:p:=by rw[eA];simp only[stepG.apply,aF,EE,GStep.after];rfl):p:=h
theorem awJ(h:p:=by go_ret;exact xU.Gx ⟨_,rfl,g1,g2⟩):p:=h
theorem awK(h:p:=by rw[w_]at this;simp only[gI]at this;exact this):p:=h
theorem awL(h:p:=by exact bI λ_ _=>⟨rfl,rfl⟩):p:=h
theorem awM(h:p:=by go_ret;exact⟨g1,rfl,g2⟩):p:=h
theorem awN(h:p:=by dsimp only at this;omega):p:=h
theorem awO(h:p:=by rcases H.own.2 with⟨rfl,rfl⟩|⟨g,cap,_,rfl,_⟩<;>exact⟨_,_,rfl⟩):p:=h
theorem awP(h:p:=by rw[he];exact⟨_,rfl⟩):p:=h
theorem awQ(h:p:=by exact qH _ ⟨_,Qh rfl⟩):p:=h
theorem awR(h:p:=by simp only[EF,P6]at ho;cases ho;exact xe _ (nT.2 (dR.2 rfl)) rfl):p:=h
theorem awS(h:p:=by rw[K_];exact bM (W1.at dd) _ b au6):p:=h
theorem awT(h:p:=by go_wp2;go_ret;exact⟨rfl,l2,g1,hb,hs,g2,g3,g4⟩):p:=h
theorem awU(h:p:=by rename_i hs;cases h;exact JK hs h4):p:=h
theorem awV(h:p:=by go_ret;exact⟨rfl,Ez,ai4⟩):p:=h
theorem awW(h:p:=by exact tZ hD (zJ hD (J3 hD (qH _ (aeZ rfl))))):p:=h
theorem awX(h:p:=by have:=aP List.length h2;simp at this;exact this):p:=h
theorem awY(h:p:=by show(if p<s.u.drawn then _ else _)=_;rw[aj hp]):p:=h
theorem awZ(h:p:=by obtain⟨h1,h2⟩:=ih ae;have h3:=qs m;exact⟨aJ h1 h3.1,λp hp=>(h3.2.1 p ae).trans (h2 p hp)⟩):p:=h
theorem aw0(h:p:=by have:W.heap.size=v0.heap.size:=NC.size;omega):p:=h
theorem aw1(h:p:=by rw[K_,<-Xy];exact dO (W1.at dd) _):p:=h
theorem aw2(h:p:=by rw[ah ae,show s.u.drawn+i-s.u.drawn=i by omega]):p:=h
theorem aw3(h:p:=by exact VH b c ty fz (λhh=>hh.elim hx ae) ((Uj b ae ae).trans (Ei yJ hx h3))):p:=h
theorem aw4(h:p:=by cases u<;>first|exact .inr λ_=>rfl|exact .inl λ_=>rfl):p:=h
theorem aw5(h:p:=by obtain rfl:n=m+1:=ae;exact⟨ak _,λ_ _=>rfl⟩):p:=h
theorem aw6(h:p:=by have:=hW'.lt x jB;simpa using this):p:=h
theorem aw7(h:p:=by obtain⟨c1,t1,f1,e1,e2⟩:=yJ.doc b hx;obtain⟨c2,t2,f2,e3,e4⟩:=xu.doc b (.inl hx);rw[Uj b ae ae,e1]at e3;rw[e2]at h3;cases e3;cases h3;exact e4):p:=h
theorem aw8(h:p:=by obtain⟨cs',t',fr',h1,h2⟩:=yJ.doc b hb;obtain rfl:=yJ.unf b _ _ _ hb h2;exact⟨cs',t',(Uj b (hXC b hb).1 (hXC b hb).2).trans h1⟩):p:=h
theorem aw9(h:p:=by exact((mono _ n hle).2 p hc).symm):p:=h
theorem aw_(h:p:=by refine ja λhd=>O4 ⟨d,λg' w' es h1 h2 h3=>hd ⟨g',w',es,h1,h2,h3⟩⟩):p:=h
theorem axa(h:p:=by rw[upd_same]at this;simpa using this):p:=h
theorem axb(h:p:=by go_ret2;exact⟨by first|rfl|(congr 3;simp;omega),_,rfl⟩):p:=h
theorem axc(h:p:=by go_wp2;go_ret;exact⟨rfl,zB rfl HF.out⟩):p:=h
theorem axd(h:p:=by go_wp2;go_ret;exact⟨rfl,0,rfl⟩):p:=h
theorem axe(h:p:=by simp only[Frame.enter,g1,fB,g3,aB,dR]at hx;subst hx;exact g4):p:=h
theorem axf(h:p:=by rw[K_];exact(qL.alloc (o:=wgBlock link.tWg 0 0) (ZX.at dd) aur).at d'):p:=h
theorem axg(h:p:=by rw[aj (show(w.out x).frozen? a=true from hz),aj hz];rfl):p:=h
theorem axh(h:p:=by obtain⟨r,hr,hrs⟩:=h.rel i' Fg JQ uw;exact⟨r,hr.appOther g_of_ofEvents ae,hrs⟩):p:=h
theorem axi(h:p:=by have:=nH (a:=b) (b:=d) (i:=1);simpa[nI]using this):p:=h
theorem axj(h:p:=by exact⟨_,_,rfl,hpt,J,hJ',by rcases AX with e|e;exact .inl e;exact .inr ⟨_,e,ak _⟩⟩):p:=h
theorem axk(h:p:=by refine⟨⟨hf,rfl,ha,rfl,[],λx hx=>auG,F8.nil⟩,.inl rfl,trivial,hs.to v.tape 0,λτ _=>?_,O4⟩;obtain⟨e,a',v',hq,ahg⟩:=h τ 0 (base fn) [] [f0];obtain⟨rfl,_⟩:=hQ _ _ _ hq;obtain⟨n,hn⟩:Steps P (lone ((base fn).at a [.code c]) [f0] {v with tape:=τ,drawn:=0}) (lone ((base fn).at a' []) [f0] v'):=ahg;exact⟨n,a',v',hn,hq⟩):p:=h
theorem axl(h:p:=by exact .inr (.inr ⟨G f' cs,v,#[],w,key v,⟨rfl,ak _,λτ _=>key _⟩,hs,ak _,λe he=>mW,.here rfl hT hm λK zU hk=>h K zU w hk⟩)):p:=h
theorem axm(h:p:=by have:=hD.frame Wg hWs (by rw[yK];exact ajg) (di sF.gm.hCW);exact wP.of_block this):p:=h
theorem axn(h:p:=by exact⟨rfl,f',_,H3,XH,hp3,Iu.trans ((vK.below Ae (λg uB=>by have:=(Ad.lt g uB).1;omega)).mono (iE uy)),aJ Ae vK.size⟩):p:=h
theorem axo(h:p:=by show stepG P true _ (w.at d')=_;rw[eA,h1];simp only[doReturn,GStep.after];rfl):p:=h
theorem axp(h:p:=by subst hji;exact YieldsIfC.opX Nq hi hy (hK _ _ _) hS ⟨λ_=>hS,H⟩):p:=h
theorem axq(h:p:=by dsimp only;rw[h1];dsimp only;rw[h2,hne,h4,h5];exact hQ):p:=h
theorem axr(h:p:=by simp only[le];rw[uV ae,uV ae,uV ae,uV ae];simp only[eY,aT,dw]):p:=h
theorem axs(h:p:=by go_ret;have RF:Below w3.heap.size w3 w5:=(hb.alloc hb.size _).trans (g2.mono auw);obtain⟨z1,z2⟩:=Qv Px XH RF;refine⟨z1,z2,?_⟩;rw[HB.out];exact⟨_,rfl,g1⟩):p:=h
theorem axt(h:p:=by go_ret;exact⟨by rw[RV,h1,h2,h3,h4];rfl,below_drewN b1 _⟩):p:=h
theorem axu(h:p:=by simp only[aj e3,ah (show¬m+1<=m by omega),aF];exact⟨ae,ae,ae,ae⟩):p:=h
theorem axv(h:p:=by have hot:=I.ot;have hne:=uC I.ot I.rd au;unfold rG at hot;obtain⟨g,c,e,_,_,_,_,hB⟩:=Aq hot ae;rw[eT]at e hne;cases e;exact⟨g,0,rfl,hB,λe=>hne pM⟩):p:=h
theorem axw(h:p:=by have hbC:=uy b ae;have a1:W4.heap[b]?=W3.heap[b]?:=xE.agree xu NZ (λhh=>hh.elim hx ae) rfl;have a2:=Uj b ae ae;have a3:=hl2 b ae;have a4:W1.heap[b]?=W.heap[b]?:=xE.agree NC VI hx (Qc.blk ae);rw[a1,a2,a3,a4]):p:=h
theorem axx(h:p:=by obtain rfl:j=a.length:=ae;have GH:¬((a.length:Int)<(a.length:Int)):=ae;have hd:decide (a=b)=true:=iq (Yj hn acB);go_wp2;go_ret;exact⟨by first|rfl|(rw[hd];rfl),hw⟩):p:=h
theorem axy(h:p:=by exact hR'.trans (qN.tail (m:=m+1) (o:=λx=>if x=m then fh 0 else out x) Fh ae)):p:=h
theorem axz(h:p:=by unfold xR qf at*;rw[hg.block rb ao8 (λe=>hT e.symm)];exact I.rd):p:=h
theorem axA(h:p:=by subst et;simp only[aO,a_ qE,a_ (show t<b.length by omega),aB]at e⊢;rw[e]):p:=h
theorem axB(h:p:=by rw[Deaf_other t ae _ g_of_ofEvents,h.deafW i' JQ,upd_ne D _ e]):p:=h
theorem axC(h:p:=by obtain⟨arr,h1,h2⟩:=hF.pay;exact⟨arr[idx]' ae,avz,auD⟩):p:=h
theorem axD(h:p:=by have:∀k:Fin 9,2^k.val<=256:=au;rw[show b=2^k from IG];exact this ⟨k,ae⟩):p:=h
theorem axE(h:p:=by refine⟨g1.trans h1,ae,λτ hτ=>?_⟩;rw[e,h3 τ λp EJ CJ=>hτ p EJ ae];exact g3 τ λp EJ CJ=>avQ):p:=h
theorem axF(h:p:=by obtain⟨N',e,hm,_⟩:=hwp;cases e;exact su (w:=w₁) (w':=w₁.setCell _ _) rfl dI hm):p:=h
theorem axG(h:p:=by rw[hi]at uB;cases uB;rcases hs.status with h|h<;>rw[h]<;>simp):p:=h
theorem axH(h:p:=by rw[DW];show W.heap[C]?=_;exact Ei hs (λhx=>by have:=hX C hx;omega) hP.pay):p:=h
theorem axI(h:p:=by simp only[aj e];exact⟨hx,hx,trivial,trivial⟩):p:=h
theorem axJ(h:p:=by rw[hsz];simp only[Result.andThen,sliced,gI,iD];rw[ah ae];simp[G6]):p:=h
theorem axK(h:p:=by obtain⟨N',e,_,_,hh⟩:=hwp;cases e;exact(bF _ _ _ _ hN).trans hh):p:=h
theorem axL(h:p:=by have I3:=(I2.agU Mc RP L_ (S+z)).ajQ Mc RP L_ (a+(k+6));go_ret;refine⟨rfl,I3.but,_,_,⟨?_,I3.on,I3.os,I3.ap,I3.IW,I3.size⟩⟩;have hl:=I3.ls;rw[EN.out,iG,ES.out,show a+(6+k)=a+(k+6)by omega];simpa using hl):p:=h
theorem axM(h:p:=by simp only[<-(show b=2^k from IG)]at this;omega):p:=h
theorem axN(h:p:=by show w'.tape (d+i) q=w'.tape (d+(v'.drawn+i-v'.drawn)) q;rw[gZ]):p:=h
theorem axO(h:p:=by show((w.heap.push _).push _)[w.heap.size]?=_;rw[gJ,ah av7,gJ,aj rfl]):p:=h
theorem axP(h:p:=by simp[execOp,uJ,resolve,invoke,builtin,hs,hx,hr,Result.andThen];exact hK v' w' r1 r2 r4):p:=h
theorem axQ(h:p:=by intro u hu;simp at hu;rcases hu with rfl|rfl<;>rfl):p:=h
theorem axR(h:p:=by go_wp2;exact⟨⟨i+1,ae,ai,Iu.trans (sK.of (below_drewN (aA _ _) nq)) Iu.sH⟩,fP⟩):p:=h
theorem axS(h:p:=by rw[Ko];generalize Sem.run p _ w=r;cases r<;>rfl):p:=h
theorem axT(h:p:=by obtain⟨s,t,vN,vS,I,_⟩:=n2;exact KD n1 I.rd au):p:=h
theorem axU(h:p:=by have:=h3 (j+1) ae;rw[show a+1+j=a+(j+1)by omega,this];simp):p:=h
theorem axV(h:p:=by obtain⟨b,wr,rfl,qE,_⟩:=hD.evs e he;exact XO _ _ qE):p:=h
theorem axW(h:p:=by rw[this];refine hK a' v' s.w hq ?_;rw[<-h3];exact hi.VQ.to τ s.u.drawn):p:=h
theorem axX(h:p:=by have o1:W4.output=v'.output:=NZ.out;have o3:W3.output=v'.output:=xu.out;have o4:W3.output=W2.output:=ho;have o5:W2.output=W1.output:=lK;have o6:W1.output=v3.output:=VI.out;have o7:v3.output=v0.output:=Qc.output;have o10:W.output=v0.output:=NC.out;rw[o1,<-o3,o4,o5,o6,o7,o10]):p:=h
theorem axY(h:p:=by obtain⟨h1,h2⟩:=h.o1 m i hm;exact⟨ae,h2⟩):p:=h
theorem axZ(h:p:=by simp[results,h,hp',asAddr,atS w g et ty cs fr d hg hu hd hi]):p:=h
theorem ax0(h:p:=by have h:(b^^^d)%2^1=(b%2^1)^^^(d%2^1):=atX;rw[Nat.pow_one]at h;rw[h];have h1:b%2=0\/b%2=1:=ae;have h2:d%2=0\/d%2=1:=ae;rcases h1 with h1|h1<;>rcases h2 with h2|h2<;>rw[h1,h2]<;>rfl):p:=h
theorem ax1(h:p:=by exact⟨rfl,f',H,hR,Tq hu (λh=>absurd h h0),hb⟩):p:=h
theorem ax2(h:p:=by rw[bV]at e;obtain⟨j',Pq,rfl⟩:=bT.1 e;obtain⟨h1,rfl⟩:=F_ Pq;exact⟨h1,rfl⟩):p:=h
theorem ax3(h:p:=by refine late (Fin:=Fin) (Shun:=vg X3) (e:=e3) wZ (λ_ _ _ h=>h) (λVU a4 W4 Yn t4 q4 ZR uw Ib=>?_) (YB W3 xu) W3.drawn gs3 sl3 t3 q3 h03 Ny;obtain⟨y,v4,b1,b2,rfl,b3⟩:=uw W4.drawn;exact fin y v4 b1 b2 VU W4 Yn t4 q4 ZR Ib b3):p:=h
theorem ax4(h:p:=by obtain⟨T,s0,j,ops,h1,h2,h3,h4⟩:=h;exact⟨T,s0,j,ops,h1,h2,h3.rely r,h4⟩):p:=h
theorem ax5(h:p:=by have:=Bh ns DX.2.1 ns.length (ak _);rw[ML,em]at this;omega):p:=h
theorem ax6(h:p:=by rw[e]at hr;cases hr;exact⟨_,rfl,by rw[hτ];exact hS (j,x) h1⟩):p:=h
theorem ax7(h:p:=by refine up (hs.afT hc).1 ae ?_;have e1:W'.heap[b]?=W.heap[b]?:=hF.low.Uj b ae ae h';have e2:=N7 hs hc;simp only[World.cell?,e1]at e2⊢;exact e2):p:=h
theorem ax8(h:p:=by have:=jg (P:=Tryz.prog) w 34 5 i0 (.int .u8 0) Tryz.underlying34 hi x_ .i64 .i64 (L:Int) (L:Int) ae ae fU ae;rw[w_,show(Value.int .u8 0).cells=#[.int .u8 0]from rfl]at this;simpa using this):p:=h
theorem ax9(h:p:=by simp only[ah e3,ah (show¬x+1<=m by omega),ah (show¬x+1=m+1 by omega)];exact⟨ae,ae,ae,ae⟩):p:=h
theorem ax_(h:p:=by exact(Iu.mono (iE uy)).setCell (p:=⟨h,0,none⟩) (ak _) _):p:=h
theorem aya(h:p:=by have o1:W4.os=v'.os:=NZ.os;have o3:W3.os=v'.os:=xu.os;have o4:W3.os=W2.os:=hos;have o5:W2.os=W1.os:=lK;have o6:W1.os=v3.os:=VI.os;have o7:v3.os=v0.os:=Qc.os;have o10:W.os=v0.os:=NC.os;rw[o1,<-o3,o4,o5,o6,o7,o10]):p:=h
theorem ayb(h:p:=by simp only[Go.ConcR.ofEvent_loc_mark h1]at hx;cases hx):p:=h
theorem ayc(h:p:=by rcases uK.2 with⟨rfl,rfl⟩|⟨g,cap,_,rfl,_⟩<;>exact⟨_,_,rfl⟩):p:=h
theorem ayd(h:p:=by exact absurd (wV he hn) (U7 (F:=F) n _ s.r ch _ _ [f0] v' (J4 hi.stack) rfl ⟨hi.tf.fn,hi.tf.defers⟩ rfl)):p:=h
theorem aye(h:p:=by refine⟨by split<;>omega,by split<;>omega,λ_=>?_⟩;omega):p:=h

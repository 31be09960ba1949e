import GoSem.Machine.Exec
import Derived.KernelRfl
import Derived.Tactics
import Derived.IntWalk
import Derived.Below
import Derived.Conc.Own
import Derived.Laws.AppendOwn
import Derived.Conc.Company
import Derived.Laws.Rows
import Derived.OwnWalk
import Derived.Laws.BitsLemmas
import Derived.Laws.World
import Derived.Laws.MakeOwn
import Derived.LoopN
abbrev ae(T:Array Go.Value)(i:Nat):=T.getD i Go.undef
abbrev ah:=Go.World
abbrev ai:=Go.Value
abbrev aI:=Go.Goroutine
abbrev aS:=Go.Frame
abbrev aP:=Go.Program
abbrev aG:=Go.TypeId
abbrev aU:=Go.FuncId
abbrev aj:=List UInt8
abbrev aH:=Array Go.Value
abbrev aN:=Array Go.Event
abbrev aK:=List Go.Value
abbrev aT:=List Go.Frame
abbrev aW:=Option Go.Addr
abbrev aZ:=Option Go.Obj
abbrev dD:=Array Go.Goroutine
abbrev aC:=List Nat
abbrev dM:=List Int
abbrev dh:=List Go.Item
abbrev ay:=@Nat.le_refl
abbrev au:=@if_neg
abbrev ax:=@if_pos
abbrev bG:=@List.getD_eq_getElem?_getD
abbrev bQ:=@List.getElem?_eq_getElem
abbrev bf:=@Option.getD_some
abbrev bg:=@Go.Conc.stepG_region_end
abbrev aO:=@Go.RowKit.Below.refl
abbrev bH:=@Nat.lt_of_lt_of_le
abbrev aQ:=@Go.Conc.Goes.step
abbrev bM:=@List.length_append
abbrev bF:=@Nat.le_trans
abbrev aX:=@Go.Conc.stepG_seq
abbrev a_:=@Go.Conc.Terms.idle
abbrev bY:=@Go.World.ownsRow_nil
abbrev bJ:=@Nat.zero_add
abbrev bK:=@Nat.lt_or_ge
abbrev df:=@List.cons_append
abbrev dm:=@Bool.false_eq_true
abbrev di:=@Go.wpList_append_own
abbrev dA:=@Go.RowKit.Below.heap_setCell
abbrev eG:=@Array.getElem?_eq_some_iff
abbrev dU:=@Option.map_eq_some_iff
abbrev aY:=@if_true
abbrev dR:=@Go.RowKit.ownsRow_setCell_below
abbrev dB:=@Nat.mod_eq_of_lt
abbrev dw:=@List.nil_append
abbrev fB:=@List.getElem?_eq_some_iff
abbrev bu:=@Go.Conc.goes_go
abbrev eQ:=@Array.replicate_zero
abbrev eU:=@Array.replicate_succ
abbrev dI:=@Go.RowKit.Below.heap_alloc
abbrev bI:=@congrArg
abbrev dV:=@List.getElem?_map
abbrev eP:=@List.append_toArray
abbrev dQ:=@List.length_cons
abbrev dL:=@Bool.eq_iff_iff
abbrev cO:=@Go.info_parts
abbrev dP:=@List.range_succ
abbrev dH:=@Go.IntWalk.i64_in
abbrev eH:=@List.push_toArray
abbrev fJ:=@Array.mem_of_getElem?
abbrev dZ:=@Nat.lt_succ_self
abbrev bU:=@if_false
abbrev dX:=@List.append_nil
abbrev dJ:=@Nat.xor_assoc
abbrev dK:=@List.mem_cons
abbrev dY:=@decide_eq_false
abbrev d_:=@List.length_nil
abbrev dO:=@Nat.add_assoc
abbrev ig:=@List.getElem?_append_left
abbrev iw:=@Classical.byContradiction
abbrev fH:=@List.size_toArray
abbrev b_:=@Go.Conc.opsC_nil
abbrev gZ:=@List.take_of_length_le
abbrev dS:=@Go.bodyPost_ret
abbrev ji:=@List.getElem?_append_right
abbrev fK:=@of_decide_eq_true
abbrev iJ:=@Nat.add_sub_cancel_left
abbrev h_:=@List.getElem?_eq_none
abbrev iy:=@Array.getElem?_modify
abbrev dW:=@Go.Conc.stepG_region
abbrev dC:=@Go.Conc.Goes.stop
abbrev gy:=@Nat.eq_zero_or_pos
abbrev jg:=@List.getElem?_cons_zero
abbrev jh:=@List.getElem?_cons_succ
abbrev jQ:=@List.eq_nil_of_length_eq_zero
abbrev cu:=@Go.Conc.wpC_seq
abbrev g_:=@List.map_congr_left
abbrev fM:=@Option.map_some
abbrev fU:=@Bool.and_eq_true
abbrev dF:=@Go.Conc.Goes.rely
abbrev gQ:=@of_decide_eq_false
abbrev gY:=@Nat.xor_lt_two_pow
abbrev kZ:=@Array.getElem?_setIfInBounds_ne
abbrev iZ:=@UInt8.lt_iff_toNat_lt
abbrev fA:=@Nat.le_of_eq
abbrev gW:=@Option.some.injEq
abbrev fF:=@Nat.add_zero
abbrev iK:=@Nat.add_sub_cancel
abbrev iO:=@List.mem_singleton
abbrev fG:=@Go.Loc.cell.inj
abbrev gu:=@Option.some.inj
abbrev gX:=@Option.bind_some
abbrev jc:=@List.take_succ_cons
abbrev jm:=@List.drop_succ_cons
abbrev jo:=@Array.getElem?_push
abbrev iq:=@Go.IntKind.wrap_i64
abbrev iG:=@decide_eq_true_eq
abbrev l9:=@Array.all_eq_true_iff_forall_mem
abbrev gG:=@List.take_zero
abbrev dE:=@Ne.symm
abbrev fO:=@Nat.zero_mul
abbrev fP:=@Nat.succ_mul
abbrev jk:=@List.ext_getElem?
abbrev gV:=@decide_eq_true
abbrev ik:=@List.drop_zero
abbrev fQ:=@Nat.mul_comm
abbrev iP:=@List.map_append
abbrev gU:=@Go.heap_alloc_new
abbrev jy:=@UInt8.toNat_ofNat'
abbrev jI:=@Nat.mul_le_mul_right
abbrev jO:=@List.mem_of_getElem?
abbrev jf:=@List.length_take
abbrev kW:=@List.length_eq_zero_iff
abbrev l7:=@Array.getD_eq_getD_getElem?
abbrev fE:=@Go.Conc.stepG_skip
abbrev iI:=@Nat.mul_le_mul
abbrev gI:=@List.mem_map
abbrev jd:=@List.sum_append
abbrev jB:=@List.all_eq_true
abbrev lT:=@Option.bind_eq_some_iff
abbrev jR:=@Int.toNat_natCast
abbrev je:=@List.map_cons
abbrev jK:=@List.nodup_range
abbrev iF:=@Go.results_none
abbrev gK:=@Go.rounds_succ
abbrev jw:=@Go.size_madeCells
abbrev jP:=@List.length_map
abbrev iH:=@Nat.zero_le
abbrev iM:=@Nat.add_mul
abbrev oU:=@List.take_succ_eq_append_getElem
abbrev kX:=@List.append_assoc
abbrev jD:=@Bool.not_true
abbrev kF:=@Go.heap_setCell_same
abbrev lQ:=@Go.World.cell?_alloc_lt
abbrev lM:=@beq_eq_false_iff_ne
abbrev lV:=@Nat.div_eq_of_lt_le
abbrev fC:=@Fin.ext
abbrev jM:=@List.mem_range
abbrev kH:=@Go.World.ownsRow.lt
abbrev ja:=@Nat.mul_one
abbrev jA:=@Nat.xor_comm
abbrev kK:=@List.mem_append
abbrev pO:=@Array.getElem?_setIfInBounds
abbrev lL:=@Go.heap_setCell_other
abbrev jS:=@Bool.false_or
abbrev oK:=@Nat.shiftRight_xor_distrib
abbrev m_:=@Nat.pow_le_pow_right
abbrev jb:=@Nat.mod_lt
abbrev nH:=@List.mem_cons_of_mem
abbrev kY:=@Array.mem_push
abbrev jH:=@Nat.pow_succ
abbrev jJ:=@Nat.le_of_lt
abbrev lY:=@List.length_drop
abbrev oL:=@Nat.shiftRight_eq_div_pow
abbrev pV:=@Array.getElem?_eq_getElem
abbrev oG:=@Go.World.cell?_setCell_other
abbrev pq:=@List.find?_range_eq_some
abbrev lX:=@Nat.div_add_mod
abbrev lZ:=@Bool.or_eq_true
abbrev nI:=@List.getElem?_take
abbrev nO:=@Array.ext_getElem?
abbrev kJ:=@Nat.xor_self
abbrev kU:=@List.map_nil
abbrev kV:=@List.map_map
abbrev nJ:=@List.getElem?_set
abbrev pG:=@List.drop_of_length_le
abbrev pM:=@Array.mem_iff_getElem?
abbrev lH:=@Go.wp_loop_rounds
abbrev oV:=@List.take_append_drop
abbrev oZ:=@List.getElem?_toArray
abbrev nG:=@List.not_mem_nil
abbrev nN:=@Array.mem_append
abbrev o9:=@List.getElem?_append
abbrev ng:=@Nat.one_ne_zero
abbrev ni:=@Nat.min_eq_left
abbrev nz:=@Nat.div_le_self
abbrev oH:=@Go.World.cell?_of_block
abbrev oJ:=@Option.bind_eq_bind
abbrev o8:=@List.getElem?_range
abbrev pg:=@List.flatMap_append
abbrev lU:=@Nat.xor_zero
abbrev mY:=@UInt8.toNat_lt
abbrev pz:=@List.find?_eq_none
abbrev pU:=@Array.getElem?_map
abbrev iY:=@Go.Conc.wpC_rely
abbrev o_:=@List.flatten_cons
abbrev pJ:=@Decidable.not_not
abbrev pK:=@Array.size_append
abbrev nD:=@List.sum_cons
abbrev auD:=@decide_eq_false_iff_not
abbrev oO:=@Nat.le_max_right
abbrev oQ:=@Nat.div_eq_of_lt
abbrev pF:=@List.ext_getElem
abbrev mZ:=@Nat.sub_self
abbrev nC:=@Nat.add_comm
abbrev auV:=@List.drop_eq_nil_of_le
abbrev nK:=@Int.lt_or_le
abbrev au2:=@Array.getElem?_push_lt
abbrev oP:=@Nat.le_max_left
abbrev auO:=@Nat.div_lt_iff_lt_mul
abbrev lK:=@Go.Conc.stepG_block
abbrev auR:=@List.mem_append_left
abbrev pI:=@List.drop_drop
abbrev auY:=@Bool.or_eq_false_iff
abbrev auH:=@Nat.xor_mod_two_pow
abbrev auN:=@Nat.div_mul_le_self
abbrev auT:=@List.flatten_append
abbrev kC:=@Go.run_make
abbrev oz:=@forall_congr'
abbrev oI:=@Prod.mk.injEq
abbrev lJ:=@Go.Conc.stepG_cond
abbrev auS:=@List.getElem?_drop
abbrev au1:=@BitVec.toNat_ofNat
abbrev kG:=@dif_pos
abbrev auL:=@Nat.lt_trichotomy
abbrev oM:=@Nat.lt_trans
abbrev auP:=@List.take_add_one
abbrev auZ:=@Bool.not_eq_true'
abbrev ku:=@Go.Conc.wpC_loop
abbrev auJ:=@Nat.shiftLeft_eq
abbrev auU:=@List.drop_length
abbrev auX:=@Int.natCast_ediv
abbrev au0:=@BitVec.toNat_xor
abbrev lI:=@Go.Conc.wpC_block
abbrev auF:=@UInt8.toNat_inj
abbrev auG:=@Option.pure_def
abbrev auC:=@Go.results_cell_row
abbrev avT:=@Nat.two_pow_add_eq_or_of_lt
abbrev mX:=@or_false
abbrev avW:=@Nat.mod_two_eq_zero_or_one
abbrev av4:=@Int.tdiv_eq_ediv_of_nonneg
abbrev nM:=@Eq.trans
abbrev av9:=@Array.getElem?_append_left
abbrev auB:=@Go.run_loadVar_row
abbrev auE:=@Go.Value.slice.inj
abbrev avU:=@Nat.shiftLeft_xor_distrib
abbrev av3:=@List.drop_eq_getElem_cons
abbrev auW:=@Go.IntKind.wrap_u8
abbrev avS:=@Option.isSome_iff_exists
abbrev auI:=@Nat.sub_zero
abbrev auM:=@Nat.le_total
abbrev avY:=@Nat.div_div_eq_div_mul
abbrev auQ:=@List.sum_nil
abbrev av8:=@Array.getElem?_eq_none
abbrev av2:=@List.filterMap_append
abbrev av6:=@Array.getElem_push_lt
abbrev av7:=@Array.getElem?_toList
abbrev auK:=@Nat.one_mul
abbrev avX:=@Nat.eq_of_testBit_eq
abbrev av5:=@BitVec.ofInt_natCast
abbrev avV:=@Nat.mul_le_mul_left
abbrev avZ:=@List.length_pos_iff
abbrev av1:=@List.getD_cons_succ
variable {p:Prop}
theorem ag(h:p:=by omega):p:=h
theorem ak(h:p:=by kernel_rfl):p:=h
theorem aB(h:p:=by decide):p:=h
theorem aA(h:p:=by simp):p:=h
theorem aJ(h:p:=by simp;omega):p:=h
theorem aF(h:p:=by rfl):p:=h
theorem bT(h:p:=by unfold maxLen;omega):p:=h
theorem aV(h:p:=by go_num):p:=h
theorem jX(h:p:=by exact rq.later (qG.alloc (S:=fun _=>False) (qG.refl _ _ _) (Nat.le_refl _) _) Pz id):p:=h
theorem jY(h:p:=by exact Jc.later (qG.alloc (S:=fun _=>False) (qG.refl _ _ _) (Nat.le_refl _) _) QC id):p:=h
theorem eX(h:p:=by simp only [phi];omega):p:=h
theorem bV(h:p:=by go_simp):p:=h
theorem mD(h:p:=by rw [eAτ];simp only [stepG.apply,if_true,ht3 τ hτ,GStep.after];rfl):p:=h
theorem mJ(h:p:=by rw [eA0];simp only [stepG.apply,if_true,r_,GStep.after];rfl):p:=h
theorem dG(h:p:=by assumption):p:=h
theorem eY(h:p:=by rw [sW];omega):p:=h
theorem iQ(h:p:=by simp only [dO8,qd8];rfl):p:=h
theorem nX(h:p:=by rw [show (s.rd vN vS vC vT .nilIface).nx=s.nx from rfl];omega):p:=h
theorem mM(h:p:=by have:=hb.pl;exact Nat.le_trans this (by omega)):p:=h
theorem mP(h:p:=by have:=hb.ln;exact Nat.le_trans this (by omega)):p:=h
theorem mO(h:p:=by have:=hb.m;exact Nat.le_trans this (by omega)):p:=h
theorem mQ(h:p:=by have:=hb.c;exact Nat.le_trans this (by omega)):p:=h
theorem mG(h:p:=by rw [eA0];simp only [stepG.apply,if_true,r_];rfl):p:=h
theorem jq(h:p:=by simp only [sP6,qs6];rfl):p:=h
theorem jr(h:p:=by simp only [oP1,qo1];rfl):p:=h
theorem iT(h:p:=by rw [if_neg (by omega)]):p:=h
theorem jG(h:p:=by rw [IntKind.wrap_i64];omega):p:=h
theorem fD(h:p:=by exact I.sc):p:=h
theorem f_(h:p:=by decide +kernel):p:=h
theorem jT(h:p:=by simp only [aO5,qa5];rfl):p:=h
theorem iC(h:p:=by simpa using hj):p:=h
theorem mr(h:p:=by rw [e] at e';exact Loc.cell.inj e'):p:=h
theorem iE(h:p:=by rw [uT];omega):p:=h
theorem iD(h:p:=by simpa using h1):p:=h
theorem jU(h:p:=by simp only [R_,YM];rfl):p:=h
theorem iR(h:p:=by rw [xu];omega):p:=h
theorem jF(h:p:=by simp [Act.eval]):p:=h
theorem jv(h:p:=by rw [vV];omega):p:=h
theorem fZ(h:p:=by exact hS):p:=h
theorem aus(h:p:=by have:=h.hts;simp only [Array.size_append];omega):p:=h
theorem avx(h:p:=by rw [get_map_set _ _ _ _ (by omega),hx,Option.map_some,woken_quitsD N8]):p:=h
theorem og(h:p:=by intro u hu;simp at hu;subst hu;rfl):p:=h
theorem awE(h:p:=by rw [fin];exact ⟨⟨GI,NY⟩,rfl,rfl,rfl,S,two (a:=.inRegion ops _) ho,hS.put fun x hx hd=>by obtain ⟨u',e,h⟩:=QP (Zr L8 hx hd) r_;cases e;exact h⟩):p:=h
theorem jV(h:p:=by simp [intOf];omega):p:=h
theorem l_(h:p:=by simp only [dO9,qd9];rfl):p:=h
theorem fV(h:p:=by simp [rP]):p:=h
theorem avy(h:p:=by rw [get_map_set _ _ _ _ (by omega),hx,Option.map_some,hsx.woken]):p:=h
theorem gJ(h:p:=by simp [mk]):p:=h
theorem awk(h:p:=by simp only [G,stepG,stepG.exec,Bool.not_true,Bool.false_eq_true,if_false,hc,hτ v.drawn (Nat.le_refl _) (Nat.lt_succ_self _)]):p:=h
theorem awD(h:p:=by rw [fin];exact ⟨⟨GI,NY⟩,rfl,rfl,rfl,S,two (a:=.inRegion ops _) ho,hS.put fun x hx hd=>by obtain ⟨u',e,h⟩:=QP (Zr L8 hx hd) r_;cases e⟩):p:=h
theorem jE(h:p:=by simpa using h2):p:=h
theorem aui(h:p:=by show w.heap.size+1≠w.heap.size;omega):p:=h
theorem lF(h:p:=by simp [go_sem, *]):p:=h
theorem iW(h:p:=by exact CU):p:=h
theorem auq(h:p:=by rw [List.length_append,HP.out];omega):p:=h
theorem gp(h:p:=by cases h):p:=h
theorem lq(h:p:=by simp [p];omega):p:=h
theorem lg(h:p:=by simpa using hi):p:=h
theorem mV(h:p:=by have:=hMr k h;omega):p:=h
theorem mi(h:p:=by rw [vw hc];omega):p:=h
theorem aws(h:p:=by rw [show stepG P true { frame:=f,callers:=cs,status:=.running,dying:=none } v=_ from he];rfl):p:=h
theorem p_(h:p:=by simp only [lt] at g2;simp [g2]):p:=h
theorem apM(h:p:=by simp [deafBehind,semEvents]):p:=h
theorem aug(h:p:=by simp [Value.ownBlock];omega):p:=h
theorem iV(h:p:=by rw [e]):p:=h
theorem jW(h:p:=by simp [hj]):p:=h
theorem awu(h:p:=by rw [show (2:Nat) ^ 32=256 ^ 4 from rfl];exact Nat.pow_le_pow_right (by omega) hn):p:=h
theorem lu(h:p:=by simp [h.size]):p:=h
theorem auk(h:p:=by rw [xE];exact Nat.le_refl _):p:=h
theorem avi(h:p:=by show w.heap.size<=w.heap.size+1;omega):p:=h
theorem avv(h:p:=by rw [hi];simp [World.drewN,Nat.add_assoc]):p:=h
theorem avg(h:p:=by simp [Frame.at] at hx;subst hx;exact hc):p:=h
theorem ava(h:p:=by simp only [World.cell?,r.stands hb id]):p:=h
theorem avh(h:p:=by show w.heap.size≠w.heap.size+1;omega):p:=h
theorem iU(h:p:=by rw [h]):p:=h
theorem aw_(h:p:=by exact Nat.lt_of_lt_of_le (by rw [hg] at lt2;exact lt2) (Nat.le_of_lt hgs)):p:=h
theorem avr(h:p:=by rw [hτ p (by omega),t1];exact hag p hp):p:=h
theorem awj(h:p:=by simp only [G,stepG,stepG.exec,Bool.not_true,Bool.false_eq_true,if_false,hc]):p:=h
theorem mg(h:p:=by show _=_;omega):p:=h
theorem lG(h:p:=by simp [CS]):p:=h
theorem avz(h:p:=by rw [HSN.out,HEE.out];exact J.drewN _):p:=h
theorem oh(h:p:=by intro h;cases h):p:=h
theorem avb(h:p:=by simp only [Sem.runT] at hr;cases hr):p:=h
theorem auh(h:p:=by simp [Region.wanted,hg]):p:=h
theorem avA(h:p:=by rw [HS2.out];exact Nat.le_refl _):p:=h
theorem awC(h:p:=by rw [fin];exact ⟨⟨GI,NY⟩,rfl,rfl,rfl,S,two (a:=.inRegion ops _) ho,hS.un _⟩):p:=h
theorem nS(h:p:=by simpa using ht):p:=h
theorem avm(h:p:=by rw [upd_ne D _ e];exact aey a ha e):p:=h
theorem avI(h:p:=by have:=yQ.size;simp at this;omega):p:=h
theorem pY(h:p:=by simpa [Ew,uz] using FM):p:=h
theorem nT(h:p:=by simp at hi;omega):p:=h
theorem aup(h:p:=by rw [Sem.runT_eq,hr]):p:=h
theorem avL(h:p:=by have:=of_decide_eq_false Oc;omega):p:=h
theorem aut(h:p:=by have:=g1.size;omega):p:=h
theorem auu(h:p:=by have:=I2.size;omega):p:=h
theorem jZ(h:p:=by cases hx):p:=h
theorem j_(h:p:=by cases he):p:=h
theorem au3(h:p:=by unfold ad;rw [if_neg (by omega)]):p:=h
theorem nP(h:p:=by simpa using wV):p:=h
theorem awT(h:p:=by rw [<- HR.out,show ((ln:Int) == (L:Int))=false by simp;omega];rfl):p:=h
theorem avJ(h:p:=by have:=of_decide_eq_true qB;omega):p:=h
theorem avK(h:p:=by have:=of_decide_eq_true Oc;omega):p:=h
theorem lh(h:p:=by simp at h):p:=h
theorem nV(h:p:=by simp [rP] at hj):p:=h
theorem awr(h:p:=by rw [vM,List.mem_singleton] at hb;subst hb;exact h.sf.bs.lt h.mj):p:=h
theorem avs(h:p:=by rw [hs.size,xk.size];exact hsz):p:=h
theorem nY(h:p:=by rw [hl];omega):p:=h
theorem aun(h:p:=by rw [h.size];omega):p:=h
theorem avF(h:p:=by rw [<- hT];exact ql.cell h rfl):p:=h
theorem auv(h:p:=by exact zh.cell rfl):p:=h
theorem auj(h:p:=by show 1 < _;omega):p:=h
theorem n_(h:p:=by rw [HG.out]):p:=h
theorem mW(h:p:=by exact RX):p:=h
theorem au9(h:p:=by simp;have:=hb.size;omega):p:=h
theorem mf(h:p:=by simp [cnt]):p:=h
theorem aul(h:p:=by rw [sW,sW];omega):p:=h
theorem au_(h:p:=by simp only [oP0,qo0];rfl):p:=h
theorem qf(h:p:=by simp only [Ua,Bh]):p:=h
theorem avG(h:p:=by rw [<- HL.out];exact qB):p:=h
theorem awO(h:p:=by rw [Deaf_other t (by omega) _ g_of_ofEvents,h.deaf0]):p:=h
theorem awR(h:p:=by rw [<- Nat.succ_mul];exact Nat.mul_le_mul_right s hi):p:=h
theorem avu(h:p:=by rw [hm.tt];exact hm.small):p:=h
theorem awS(h:p:=by rw [<- Nat.succ_mul];exact Nat.mul_le_mul_right s h):p:=h
theorem qh(h:p:=by simp at h1;omega):p:=h
theorem awt(h:p:=by rw [show b=2 ^ k from Jg];exact Nat.one_le_two_pow):p:=h
theorem awH(h:p:=by rw [List.mem_singleton] at hb;subst hb;exact hF.mj):p:=h
theorem aw7(h:p:=by have:=(sJ.gm.own i hi b A8).1;have:=sJ.gm.hW;omega):p:=h
theorem aw8(h:p:=by have:=(sJ.gm.own i hi b A8).1;have:=sJ.gm.hC;omega):p:=h
theorem pW(h:p:=by simpa using h):p:=h
theorem au7(h:p:=by simpa [pend] using wV):p:=h
theorem awi(h:p:=by simp only [G,stepG,stepG.exec,he,Option.elim];rfl):p:=h
theorem ave(h:p:=by simp [World.frozen?,h1]):p:=h
theorem aur(h:p:=by rw [HT.out];rfl):p:=h
theorem avE(h:p:=by rw [DN f];exact uP f 0):p:=h
theorem aw6(h:p:=by have:=IZ u 4 (a+2+k);rw [hz] at this;exact this):p:=h
theorem avP(h:p:=by have:=E0.out;simp;omega):p:=h
theorem avn(h:p:=by rw [t1];exact hag p hp):p:=h
theorem avw(h:p:=by rw [hg.left i j hi hj]):p:=h
theorem oq(h:p:=by exact AZ):p:=h
theorem awc(h:p:=by unfold nFr;exact Nat.div_eq_of_lt (by omega)):p:=h
theorem pX(h:p:=by simpa using LM):p:=h
theorem aw3(h:p:=by have:=Vc_upd D (⟨1,q,1⟩:WD) hi;have:=hq0 q;omega):p:=h
theorem nU(h:p:=by simp at he):p:=h
theorem avk(h:p:=by rw [vV];simp;omega):p:=h
theorem avl(h:p:=by rw [upd_same];simp):p:=h
theorem avH(h:p:=by have:=zJ.size;omega):p:=h
theorem avR(h:p:=by cases hp;exact h4 rfl):p:=h
theorem awp(h:p:=by show w.heap.size < w.heap.size+2;omega):p:=h
theorem awq(h:p:=by rw [vM];exact List.mem_singleton.2 rfl):p:=h
theorem awz(h:p:=by rw [get_map_set _ _ _ _ (by omega),ha];rfl):p:=h
theorem avd(h:p:=by simp [deafBehind]):p:=h
theorem avf(h:p:=by simp [Trace.g?,ho]):p:=h
theorem awn(h:p:=by simp [MemAct.ofEvent,MemAct.touch?] at hx):p:=h
theorem avC(h:p:=by rw [HS.out];exact BJ):p:=h
theorem avD(h:p:=by rw [H2.out];exact h1):p:=h
theorem awY(h:p:=by have:=hMr _ ((g3 _ h).2 (by omega));omega):p:=h
theorem avQ(h:p:=by exact hS.heap rfl):p:=h
theorem ou(h:p:=by cases hg):p:=h
theorem aw0(h:p:=by have:=hA j qB;rw [ho] at this;cases this):p:=h
theorem au4(h:p:=by simpa using hlen):p:=h
theorem avM(h:p:=by have:=hfi.b;omega):p:=h
theorem aw4(h:p:=by have:=UInt8.lt_iff_toNat_lt.1 h';omega):p:=h
theorem au6(h:p:=by simpa using h.size):p:=h
theorem au8(h:p:=by simpa [Rh] using h):p:=h
theorem awh(h:p:=by simp only [G,stepG,stepG.exec,he];rfl):p:=h
theorem ad2(h:p:=by simp [hx]):p:=h
theorem avN(h:p:=by have:=SE 1 x;omega):p:=h
theorem avO(h:p:=by have:=HN.out;omega):p:=h
theorem auy(h:p:=by exact hot):p:=h
theorem avp(h:p:=by rw [hτ p QI BJ,t1]):p:=h
theorem awJ(h:p:=by rw [List.length_append,uD];omega):p:=h
theorem awN(h:p:=by rw [ED,List.append_nil];exact JI):p:=h
theorem awe(h:p:=by simpa using hs.str 0 (.order fn id)):p:=h
theorem aum(h:p:=by rw [hd];rfl):p:=h
theorem auo(h:p:=by rw [TN];rfl):p:=h
theorem awK(h:p:=by rw [List.length_append,HZS.out];rfl):p:=h
theorem awL(h:p:=by rw [List.length_append,HNS.out];rfl):p:=h
theorem auw(h:p:=by exact uQ):p:=h
theorem auz(h:p:=by exact g2):p:=h
theorem auA(h:p:=by exact PW):p:=h
theorem au5(h:p:=by simpa using hc):p:=h
theorem avc(h:p:=by simp [go_sem]):p:=h
theorem avj(h:p:=by rw [y8];omega):p:=h
theorem awx(h:p:=by rw [h2.size,g2.size];exact g3):p:=h
theorem awQ(h:p:=by rw [<- hS];simp only [KK];omega):p:=h
theorem awW(h:p:=by have:=of_decide_eq_false qB;omega):p:=h
theorem av_(h:p:=by unfold sc;rw [if_neg (by omega)]):p:=h
theorem qg(h:p:=by simp at hi):p:=h
theorem QO(h:p:=by simp [pre]):p:=h
theorem awl(h:p:=by simp [World.drewN,Nat.add_assoc]):p:=h
theorem awv(h:p:=by rw [ofEvent_loc_mark h1];rfl):p:=h
theorem awV(h:p:=by have:=rq.size;have:=I.size;omega):p:=h
theorem awX(h:p:=by have:=hg.lo;have:=hF.bs.hC;omega):p:=h
theorem aw1(h:p:=by have:=h.lj;have:=h.sf.sb.1;omega):p:=h
theorem aw5(h:p:=by have:=Oh.lt;show 1 < _;omega):p:=h
theorem nZ(h:p:=by rw [hl]):p:=h
theorem awy(h:p:=by rw [h1];exact hτ p (by omega) BJ):p:=h
theorem awI(h:p:=by rw [List.length_append];omega):p:=h
theorem aw2(h:p:=by have:=h.1;rw [ru] at this;omega):p:=h
theorem awf(h:p:=by simpa [World.setCell] using h3):p:=h
theorem awg(h:p:=by simp only [lt] at g1;simp [g1]):p:=h
theorem avq(h:p:=by rw [hτ p BJ,t1]):p:=h
theorem awP(h:p:=by rw [<- hWg] at hb;exact hb):p:=h
theorem awU(h:p:=by rw [<- HR.out,hq];simp [ug,qJ]):p:=h
theorem aw9(h:p:=by have:=(ow.lt g hg).1;omega):p:=h
theorem avo(h:p:=by rw [if_pos hj]):p:=h
theorem avt(h:p:=by rw [hr,h1];rfl):p:=h
theorem awF(h:p:=by rw [e];exact hO.block j hj hn):p:=h
theorem awG(h:p:=by rw [Px n 0 a hn,Nat.zero_add]):p:=h
theorem awZ(h:p:=by have:=hF.lo;have:=hb.hC;omega):p:=h
theorem awd(h:p:=by unfold Frame.catches;rw [NY]):p:=h
theorem awm(h:p:=by simp [World.cell?,h1,h2,akO]):p:=h
theorem awo(h:p:=by simp [Extern.Race.none_]):p:=h
theorem aww(h:p:=by rw [hg] at lt2;exact lt2):p:=h
theorem awM(h:p:=by rw [HS.out,HM.out];omega):p:=h
theorem axa(h:p:=by go_simp;exact uI):p:=h
theorem axb(h:p:=by simpa using this):p:=h
theorem axc(h:p:=by exact⟨IJ.ok (by first|rfl|(rw[dL];simp;done)|(rw[dL];simp<;>omega)),hB.trans (Nj.mono hB.size (λ_ x=>x))⟩):p:=h
theorem axd(h:p:=by go_wp2;go_ret;exact⟨rfl,rfl⟩):p:=h
theorem axe(h:p:=by exact(x_ he hn).elim):p:=h
theorem axf(h:p:=by intro K hK;skip;go_simp;exact hK):p:=h
theorem axg(h:p:=by cases h;cases h4):p:=h
theorem axh(h:p:=by go_ret;exact⟨rfl,rfl⟩):p:=h
theorem axi(h:p:=by exact⟨rfl,_,resultsC_tmp aF _,N,rfl,hF⟩):p:=h
theorem axj(h:p:=by rw[au ag]at this;exact this):p:=h
theorem axk(h:p:=by exact .inr (.inl h)):p:=h
theorem axl(h:p:=by go_wp2;go_ret;exact⟨aur,rfl⟩):p:=h
theorem axm(h:p:=by go_ret;exact xW.GU ⟨_,rfl,g1,g2⟩):p:=h
theorem axn(h:p:=by exact dC λ_ _=>⟨rfl,rfl⟩):p:=h
theorem axo(h:p:=by rw[eA];simp only[stepG.apply,aY,EU,GStep.after];rfl):p:=h
theorem axp(h:p:=by refine dS (iF rfl _ _ _) rfl ?_;exact⟨rfl,bad 7 a _ aB HX.out Kv xX⟩):p:=h
theorem axq(h:p:=by rw[he];exact⟨_,rfl⟩):p:=h
theorem axr(h:p:=by go_ret;exact⟨g1,rfl,g2⟩):p:=h
theorem axs(h:p:=by dsimp only at this;omega):p:=h
theorem axt(h:p:=by obtain rfl:n=m+1:=ag;exact⟨ay _,λ_ _=>rfl⟩):p:=h
theorem axu(h:p:=by go_wp2;go_ret;exact⟨rfl,0,rfl⟩):p:=h
theorem axv(h:p:=by exact((mono _ n hle).2 p hc).symm):p:=h
theorem axw(h:p:=by go_ret2;exact⟨by first|rfl|(congr 3;simp;omega),_,rfl⟩):p:=h
theorem axx(h:p:=by rw[au ag,show s.u.drawn+i-s.u.drawn=i by omega]):p:=h
theorem axy(h:p:=by simp only[Frame.enter,g1,gX,g3,bf,iO]at hx;subst hx;exact g4):p:=h
theorem axz(h:p:=by rename_i hs;cases h;exact J5 hs h4):p:=h
theorem axA(h:p:=by rw[wW]at this;simp only[jR]at this;exact this):p:=h
theorem axB(h:p:=by refine iw λhd=>PK ⟨d,λg' w' es h1 h2 h3=>hd ⟨g',w',es,h1,h2,h3⟩⟩):p:=h
theorem axC(h:p:=by intro u hu;simp at hu;rcases hu with rfl|rfl<;>rfl):p:=h
theorem axD(h:p:=by go_wp2;go_ret;exact⟨rfl,nq,rfl⟩):p:=h
theorem axE(h:p:=by rw[upd_same]at this;simpa using this):p:=h
theorem axF(h:p:=by intro u hu;simp at hu;subst hu;rfl):p:=h
theorem axG(h:p:=by go_ret;exact⟨rfl,C_,ajs⟩):p:=h
theorem axH(h:p:=by show(if p<s.u.drawn then _ else _)=_;rw[ax hp]):p:=h
theorem axI(h:p:=by obtain⟨h1,h2⟩:=ih ag;have h3:=qs m;exact⟨bF h1 h3.1,λp hp=>(h3.2.1 p ag).trans (h2 p hp)⟩):p:=h
theorem axJ(h:p:=by have:=bI List.length h2;simp at this;exact this):p:=h
theorem axK(h:p:=by cases u<;>first|exact .inr λ_=>rfl|exact .inl λ_=>rfl):p:=h
theorem axL(h:p:=by obtain⟨cs',t',fr',h1,h2⟩:=B_.doc b hb;obtain rfl:=B_.unf b _ _ _ hb h2;exact⟨cs',t',(std b (hXC b hb).1 (hXC b hb).2).trans h1⟩):p:=h
theorem axM(h:p:=by rw[this];refine hK a' v' s.w hq ?_;rw[<-h3];exact hi.VW.to τ s.u.drawn):p:=h
theorem axN(h:p:=by go_wp2;go_ret;exact⟨Zi (by rw[Zj hs,crc,<-G.out]),rfl⟩):p:=h
theorem axO(h:p:=by simp[execOp,uZ,resolve,invoke,builtin,hs,hx,hr,Result.andThen];exact hK v' w' r1 r2 r4):p:=h
theorem axP(h:p:=by rw[au (λx=>e1 x.1),au (λx=>e1 x.1),au (λx=>e1 x.1)]):p:=h
theorem axQ(h:p:=by exact⟨_,_,rfl,hpt,J,hJ',by rcases xJ with e|e;exact .inl e;exact .inr ⟨_,e,ay _⟩⟩):p:=h
theorem axR(h:p:=by rw[au2 (by simp[h.size];omega),<-pV,kZ ag];exact hg):p:=h
theorem axS(h:p:=by rw[ax (show(w.out x).frozen? a=true from hz),ax hz];rfl):p:=h
theorem axT(h:p:=by simp only[le];rw[uV ag,uV ag,uV ag,uV ag];simp only[fF,bJ,dO]):p:=h
theorem axU(h:p:=by dsimp only;rw[h1];dsimp only;rw[h2,hne,h4,h5];exact hQ):p:=h
theorem axV(h:p:=by show wrap64 ((q:Int)*(k:Int))=((q*k:Nat):Int);rw[<-Int.natCast_mul];exact U1 _ ag):p:=h
theorem axW(h:p:=by show rZ l=65537;have:=H1.out;have:=H2.out;unfold rZ;rw[au ag]):p:=h
theorem axX(h:p:=by go_ret;exact⟨by rw[D7,h1,h2,h3,h4];rfl,below_drewN b1 _⟩):p:=h
theorem axY(h:p:=by subst hji;exact YieldsIfC.opX NW hi hy (hK _ _ _) hS ⟨λ_=>hS,H⟩):p:=h
theorem axZ(h:p:=by simp[results,h,hp',asAddr,auB w g et ty cs fr d hg hu hd hi]):p:=h
theorem ax0(h:p:=by rw[au (λx=>e3 x.2),au (λx=>by have:=x.2;omega)]):p:=h
theorem ax1(h:p:=by rw[hsz];simp only[Result.andThen,sliced,jR,ja];rw[au ag];simp[Hg]):p:=h
theorem ax2(h:p:=by have:=kC (P:=Tryz.prog) w 24 5 i0 (.int .u8 0) Tryz.underlying24 hi xY .i64 .i64 (L:Int) (L:Int) ag ag jv ag;rw[wW,show(Value.int .u8 0).cells=#[.int .u8 0]from rfl]at this;simpa using this):p:=h
theorem ax3(h:p:=by obtain⟨b,wr,rfl,qB,_⟩:=hD.evs e he;exact XV _ _ qB):p:=h
theorem ax4(h:p:=by rw[TN];exact(rG.alloc (o:=wgBlock link.tWg 0 0) (hW1.at dd) (by unfold wgBlock;trivial)).at d'):p:=h
theorem ax5(h:p:=by have h2:=(I.os.lt g Oe).2;rw[e]at Ko;cases Ko;simp at h2;omega):p:=h
theorem ax6(h:p:=by have:=ND (k:Int) k rfl NU ag vS zs hz Xd (w.drewN nq) (hS.heap rfl);rw[EL.out]at this;exact this):p:=h
theorem ax7(h:p:=by simp only[ax e];exact⟨hx,hx,trivial,trivial⟩):p:=h
theorem ax8(h:p:=by simp only[au e3,au (show¬x+1<=m by omega),au (show¬x+1=m+1 by omega)];exact⟨ag,ag,ag,ag⟩):p:=h
theorem ax9(h:p:=by have:=HG.out;rw[hdk]at this;rw[hdk];exact this):p:=h
theorem ax_(h:p:=by obtain⟨N',e,_,_,hh⟩:=hwp;cases e;exact(dA _ _ _ _ hN).trans hh):p:=h
theorem aya(h:p:=by obtain⟨T,s0,j,ops,h1,h2,h3,h4⟩:=h;exact⟨T,s0,j,ops,h1,h2,h3.rely r,h4⟩):p:=h
theorem ayb(h:p:=by exact .inr (.inr ⟨G f' cs,v,#[],w,key v,⟨rfl,ay _,λτ _=>key _⟩,hs,ay _,λe he=>nU,.here rfl hT hm λK z_ hk=>h K z_ w hk⟩)):p:=h
theorem ayc(h:p:=by rw[hi]at um;cases um;rcases hs.status with h|h<;>rw[h]<;>simp):p:=h
theorem ayd(h:p:=by rw[e]at hr;cases hr;exact⟨_,rfl,by rw[hτ];exact hS (j,x) h1⟩):p:=h
theorem aye(h:p:=by obtain⟨r,hr,VT⟩:=h.rel i' TM IC uw;exact⟨r,hr.appOther g_of_ofEvents ag,VT⟩):p:=h
theorem ayf(h:p:=by have:=oK (a:=b) (b:=d) (i:=1);simpa[oL]using this):p:=h
theorem ayg(h:p:=by go_wp2;go_ret;exact⟨yZ (by rw[HT.out]),rfl⟩):p:=h
theorem ayh(h:p:=by have hbC:=vU b ag;have a1:W4.heap[b]?=W3.heap[b]?:=yg.agree zM Y0 (λhh=>hh.elim hx ag) rfl;have a2:=std b ag ag;have a3:=hl2 b ag;have a4:W1.heap[b]?=W.heap[b]?:=yg.agree Ti aet hx (Qa.blk ag);rw[a1,a2,a3,a4]):p:=h
theorem ayi(h:p:=by rw[HW.out];exact afo (I3.sh.row.cell (i:=6) rfl) ag ag):p:=h
theorem ayj(h:p:=by rw[dV]at e;obtain⟨j',NZ,rfl⟩:=dU.1 e;obtain⟨h1,rfl⟩:=Gu NZ;exact⟨h1,rfl⟩):p:=h
theorem ayk(h:p:=by exact ae2 ⟨by rw[a1,b1],by rw[a2,b2],by rw[a3,b3],by rw[a4,b4],by rw[a5,b5]⟩):p:=h
theorem ayl(h:p:=by have h2:=(I.on.lt g Ko).2;rw[e]at Oe;cases Oe;simp at h2;omega):p:=h
theorem aym(h:p:=by rw[Deaf_other t ag _ g_of_ofEvents,h.deafW i' IC,upd_ne D _ e]):p:=h
theorem ayn(h:p:=by obtain⟨arr,h1,h2⟩:=hF.pay;exact⟨arr[idx]' ag,awm,ave⟩):p:=h
theorem ayo(h:p:=by rw[Bh];show W.heap[C]?=_;exact Hf hs (λhx=>by have:=hX C hx;omega) hP.pay):p:=h
theorem ayp(h:p:=by refine⟨⟨hf,rfl,ha,rfl,[],λx hx=>avg,Gw.nil⟩,.inl rfl,trivial,hs.to v.tape 0,λτ _=>?_,PK⟩;obtain⟨e,a',v',hq,ahy⟩:=h τ 0 (base fn) [] [f0];obtain⟨rfl,_⟩:=hQ _ _ _ hq;obtain⟨n,hn⟩:Steps P (lone ((base fn).at a [.code c]) [f0] {v with tape:=τ,drawn:=0}) (lone ((base fn).at a' []) [f0] v'):=ahy;exact⟨n,a',v',hn,hq⟩):p:=h
theorem ayq(h:p:=by unfold xU ql at*;rw[hg.block rb apd (λe=>hT e.symm)];exact I.rd):p:=h
theorem ayr(h:p:=by exact⟨rfl,F8.trans (xX.mono F8.size (λ_ x=>.inl x)),Kv⟩):p:=h
theorem ays(h:p:=by obtain⟨h1,h2⟩:=h.o1 m i hm;exact⟨ag,h2⟩):p:=h
theorem ayt(h:p:=by go_ret;have Xg:Below w3.heap.size w3 w5:=(hb.alloc hb.size _).trans (g2.mono au9);obtain⟨z1,z2⟩:=Qx Tj hR3 Xg;refine⟨z1,z2,?_⟩;rw[HB.out];exact⟨_,rfl,g1⟩):p:=h
theorem ayu(h:p:=by have h:(b^^^d)%2^1=(b%2^1)^^^(d%2^1):=auH;rw[Nat.pow_one]at h;rw[h];have h1:b%2=0\/b%2=1:=ag;have h2:d%2=0\/d%2=1:=ag;rcases h1 with h1|h1<;>rcases h2 with h2|h2<;>rw[h1,h2]<;>rfl):p:=h
theorem ayv(h:p:=by rw[Ls];generalize Sem.run p _ w=r;cases r<;>rfl):p:=h
theorem ayw(h:p:=by show wrap64 ((t:Int)/(k:Int))=(q:Int);rw[<-auX,eq];exact U1 _ ag):p:=h
theorem ayx(h:p:=by refine dS (iF rfl _ _ _) rfl ?_;exact⟨rfl,bad 7 (a+2) _ aB HX.out Kv xX⟩):p:=h
theorem ayy(h:p:=by have hot:=I.ot;have hne:=uK I.ot I.rd aB;unfold BK at hot;obtain⟨g,c,e,_,_,_,_,hB⟩:=U0 hot ag;rw[eT]at e hne;cases e;exact⟨g,0,rfl,hB,λe=>hne (by rw[e];rfl)⟩):p:=h
theorem ayz(h:p:=by have:=hD.frame Wg hWs (by rw[yU];exact ajG) (dE sJ.gm.hCW);exact wV.of_block this):p:=h
theorem ayA(h:p:=by exact hk' b c ty fz (λhh=>hh.elim hx ag) ((std b ag ag).trans (Hf B_ hx h3))):p:=h
theorem ayB(h:p:=by obtain⟨c1,t1,f1,e1,e2⟩:=B_.doc b hx;obtain⟨c2,t2,f2,e3,e4⟩:=zM.doc b (.inl hx);rw[std b ag ag,e1]at e3;rw[e2]at h3;cases e3;cases h3;exact e4):p:=h
theorem ayC(h:p:=by clear nt nf;go_wp2;go_ret;exact⟨by rw[D7,q1];simp,b1⟩):p:=h
theorem ayD(h:p:=by intro u hu;simp only[dK,nG,mX]at hu;rcases hu with rfl|rfl|rfl|rfl|rfl|rfl|rfl<;>rfl):p:=h
theorem ayE(h:p:=by refine late (Fin:=Fin) (Shun:=wX X3) (e:=e3) yP (λ_ _ _ h=>h) (λYv a4 W4 sl4 t4 q4 h04 uw xX=>?_) (YL W3 zM) W3.drawn gs3 sl3 t3 q3 h03 F8;obtain⟨y,v4,b1,b2,rfl,b3⟩:=uw W4.drawn;exact fin y v4 b1 b2 Yv W4 sl4 t4 q4 h04 xX b3):p:=h
theorem ayF(h:p:=by have:=GY vS zs hz Xd (w.drewN nq) (hS.heap rfl);rw[ET.out]at this;exact this):p:=h
theorem ayG(h:p:=by have:∀k:Fin 9,2^k.val<=256:=aB;rw[show b=2^k from Jg];exact this ⟨k,ag⟩):p:=h
theorem ayH(h:p:=by have:=h3 (j+1) ag;rw[show a+1+j=a+(j+1)by omega,this];simp):p:=h
theorem ayI(h:p:=by show wrap64 ((q:Int)+1)=((q+1:Nat):Int);rw[U1 _ ag];rfl):p:=h
theorem ayJ(h:p:=by subst et;simp only[bG,bQ qB,bQ (show t<b.length by omega),bf]at e⊢;rw[e]):p:=h
theorem ayK(h:p:=by obtain rfl:j=a.length:=ag;have E5:¬((a.length:Int)<(a.length:Int)):=ag;have hd:decide (a=b)=true:=gV (Yk hn I_);go_wp2;go_ret;exact⟨by first|rfl|(rw[hd];rfl),hw⟩):p:=h
theorem ayL(h:p:=by show _=_;have:=H2.out;have:=H3.out;unfold Zl;rw[au ag]):p:=h
theorem ayM(h:p:=by show stepG P true _ (w.at d')=_;rw[eA,h1];simp only[doReturn,GStep.after];rfl):p:=h
theorem ayN(h:p:=by refine⟨g1.trans h1,ag,λτ hτ=>?_⟩;rw[e,h3 τ λp QI BJ=>hτ p QI ag];exact g3 τ λp QI BJ=>awy):p:=h
theorem ayO(h:p:=by show w'.tape (d+i) q=w'.tape (d+(v'.drawn+i-v'.drawn)) q;rw[iJ]):p:=h
theorem ayP(h:p:=by have o1:W4.os=v'.os:=Y0.os;have o3:W3.os=v'.os:=zM.os;have o4:W3.os=W2.os:=hos;have o5:W2.os=W1.os:=auo;have o6:W1.os=v3.os:=aet.os;have o7:v3.os=v0.os:=Qa.os;have o10:W.os=v0.os:=Ti.os;rw[o1,<-o3,o4,o5,o6,o7,o10]):p:=h
theorem ayQ(h:p:=by obtain⟨N',e,hm,_⟩:=hwp;cases e;exact sD (w:=w₁) (w':=w₁.setCell _ _) rfl eY hm):p:=h
theorem ayR(h:p:=by exact absurd (wY he hn) (U6 (F:=F) n _ s.r ch _ _ [f0] v' (KQ hi.stack) rfl ⟨hi.tf.fn,hi.tf.defers⟩ rfl)):p:=h
theorem ayS(h:p:=by simp only[Go.ConcR.ofEvent_loc_mark h1]at hx;cases hx):p:=h
theorem ayT(h:p:=by have hx:(t:Int)<=wrap64 (wrap64 ((t:Int)/(k:Int))*(k:Int)):=dG;rw[W1.out,W2.out]at hx;go_ret;refine⟨yZ ?_,rfl⟩;rw[HL.out,au ag,W1.out]):p:=h
theorem ayU(h:p:=by have I3:=(I2.ahb Nk RZ QN (S+z)).ajY Nk RZ QN (a+(k+6));go_ret;refine⟨rfl,I3.but,_,_,⟨?_,I3.on,I3.os,I3.ap,I3.LV,I3.size⟩⟩;have hl:=I3.ls;rw[EN.out,jd,ES.out,show a+(6+k)=a+(k+6)by omega];simpa using hl):p:=h
theorem ayV(h:p:=by obtain⟨s,t,vN,vS,I,_⟩:=n2;exact Lm n1 I.rd aB):p:=h
theorem ayW(h:p:=by exact⟨rfl,by rw[HE.out];exact⟨vC,a,qC,I⟩⟩):p:=h
theorem ayX(h:p:=by have o1:W4.output=v'.output:=Y0.out;have o3:W3.output=v'.output:=zM.out;have o4:W3.output=W2.output:=ho;have o5:W2.output=W1.output:=auo;have o6:W1.output=v3.output:=aet.out;have o7:v3.output=v0.output:=Qa.output;have o10:W.output=v0.output:=Ti.out;rw[o1,<-o3,o4,o5,o6,o7,o10]):p:=h
theorem ayY(h:p:=by refine⟨by split<;>omega,by split<;>omega,λ_=>?_⟩;omega):p:=h
theorem ayZ(h:p:=by refine up (hs.af2 hc).1 ag ?_;have e1:W'.heap[b]?=W.heap[b]?:=hF.low.std b ag ag h';have e2:=OA hs hc;simp only[World.cell?,e1]at e2⊢;exact e2):p:=h
theorem ay0(h:p:=by rw[show decide (((qC.length+c:Nat):Int)<(t:Int)-(iL:Int)\/y=0)=true from by simp;omega];cases rc<;>rfl):p:=h
theorem ay1(h:p:=by simp only[<-(show b=2^k from Jg)]at this;omega):p:=h
theorem ay2(h:p:=by go_wp2;go_ret;exact⟨by first|rfl|(rw[hd];rfl),⟨A_.os,A_.tape,A_.output,A_.size,A_.block⟩⟩):p:=h
theorem ay3(h:p:=by have hx:wrap64 (wrap64 ((t:Int)/(k:Int))*(k:Int))<(t:Int):=dG;rw[W1.out,W2.out]at hx;go_ret;refine⟨yZ ?_,rfl⟩;rw[HL.out,ax ag,W1.out,W3.out]):p:=h
theorem ay4(h:p:=by simp only[ax e3,au (show¬m+1<=m by omega),aY];exact⟨ag,ag,ag,ag⟩):p:=h

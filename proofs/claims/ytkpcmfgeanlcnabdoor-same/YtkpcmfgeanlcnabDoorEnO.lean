/-
  slices.Chunk beside goroutines that leave: what it makes.
-/
import Derived.Test.YtkpcmfgeanlcnabDoorLfO
import Derived.Test.YtkpcmfgeanlcnabDoorEnB
import Derived.Test.YtkpcmfgeanlcnabDoorWrJ
import Derived.BigQuiet
namespace Go.Proofs.YtkpcmfgeanlcnabDoor
open Go.RowKit Go.Deep Go.Lf Go.Conc

def gRd : Code → Code
  | .rangeFunc _ _ _ c => c
  | c => c
def gAs : Code → Code
  | .rangeFunc _ _ c _ => c
  | c => c

section
variable {X : Nat → Prop} {Y : Nat → Option Obj} {D : Nat → World → Array Event → Prop} {Stop : Goroutine → World → Prop} {v : World} {cs : List Frame} {cfr : Frame}
noncomputable def hBody : Code := Tryd.f38.body.getD .skip
theorem sfH : ∃ fn, Tryd.prog.funcs[38]? = some fn := ⟨_, Tryd.func38⟩

set_option maxHeartbeats 4000000 in
set_option maxRecDepth 100000 in
theorem chunkI (hD : Dok X D) (ba : Option Addr) (len cap c : Nat) (hc : 1 ≤ c)
    (hnext : ∀ w, SimT X Y w ((v.alloc (.cells #[.slice ba len cap] 29)).alloc (.cells #[.int .i64 (c : Int)] 3)) → GoesI Tryd.prog D Stop (G (cfr.finish (.func (.func 64) #[] #[.pointer (some ⟨v.heap.size, 0, none⟩), .pointer (some ⟨v.heap.size + 1, 0, none⟩)])) cs) w) :
    ReaR Tryd.prog X Y D Stop none [] 38 (cfr :: cs) [.code hBody] (#[.slice ba len cap, .int .i64 (c : Int)] ++ Array.replicate 7 undef) v := by
  unfold hBody
  simp only [Tryd.f38, Option.getD_some, Array.replicate_succ, Array.replicate_zero, List.push_toArray, List.append_toArray, List.nil_append, List.cons_append]
  refine reaR_split hD (reaR_go goodF hD (by kernel_rfl) sfH fun R hR τ d => ?_)
  go_wp2
  change ReaR _ _ _ _ _ _ _ _ _ _ _ ((v.alloc (.cells #[.slice ba len cap] 29)).alloc (.cells #[.int .i64 (c : Int)] 3))
  have hN : ((v.alloc (.cells #[.slice ba len cap] 29)).alloc (.cells #[.int .i64 (c : Int)] 3)).cell? ⟨v.heap.size + 1, 0, none⟩ = some (.int .i64 (c : Int)) := by
    have := (Boxed.new (v.alloc (.cells #[.slice ba len cap] 29)) 3 (.int .i64 (c : Int))).cell
    rw [World.size_alloc] at this
    exact this
  generalize (v.alloc (.cells #[.slice ba len cap] 29)).alloc (.cells #[.int .i64 (c : Int)] 3) = W at hN hnext ⊢
  have hnc : ¬ ((c : Int) < 1) := by omega
  refine reaR_split hD (reaR_split hD (reaR_go goodF hD (by kernel_rfl) sfH fun R hR τ d => ?_))
  have cN : ({ W with tape := τ, drawn := d } : World).cell? ⟨v.heap.size + 1, 0, none⟩ = some (.int .i64 (c : Int)) := hN
  go_wp2
  change ReaR _ _ _ _ _ _ _ _ _ _ _ W
  refine reaR_cond (b := false) hD (by simp) (reaR_skip hD (reaR_split hD (reaR_go goodF hD (by kernel_rfl) sfH fun R hR τ d => ?_)))
  go_wp2
  change ReaR _ _ _ _ _ _ _ _ _ _ _ W
  refine reaI_ret (a := ⟨_, []⟩) hD rfl Tryd.func38 (fun τ d => results_tmp (fn := Tryd.f38) (t := 4) rfl _ _ _) ?_
  exact hnext
end
end Go.Proofs.YtkpcmfgeanlcnabDoor

/-
  slices.Chunk's function beside goroutines that leave: it hands out the frames, one behind the other.
-/
namespace Go.Proofs.YtkpcmfgeanlcnabDoor
open Go.RowKit Go.Deep Go.Lf Go.Conc

noncomputable def kBody : Code := Tryd.f64.body.getD .skip
noncomputable def kLoop : Code := gIn (gIn (gSnd kBody))
noncomputable def qk1 : {x : Array Oper // x = gOps (gFst (gFst kLoop))} := ⟨_, by (simp only [kBody, kLoop, gIn, gFst, gSnd, gOps, Tryd.f64, Option.getD_some]; rfl)⟩
noncomputable def qk2 : {x : Array Oper // x = gOps (gSnd (gSnd kLoop))} := ⟨_, by (simp only [kBody, kLoop, gIn, gSnd, gOps, Tryd.f64, Option.getD_some]; rfl)⟩
noncomputable def qk3 : {x : Array Oper // x = gOps (gFst (gIn (gFst (gSnd kLoop))))} := ⟨_, by (simp only [kBody, kLoop, gIn, gFst, gSnd, gOps, Tryd.f64, Option.getD_some]; rfl)⟩
noncomputable def qk4 : {x : Array Oper // x = gOps (gFst (gSnd (gIn (gFst (gSnd kLoop)))))} := ⟨_, by (simp only [kBody, kLoop, gIn, gFst, gSnd, gOps, Tryd.f64, Option.getD_some]; rfl)⟩
noncomputable def kO1 : Array Oper := qk1.1
noncomputable def kO2 : Array Oper := qk2.1
noncomputable def kO3 : Array Oper := qk3.1
noncomputable def kO4 : Array Oper := qk4.1
theorem kLoop_eq : kLoop = .seq (.seq (.region 1 kO1 false) (.cond (.tmp 9) .skip (.exit 0))) (.seq (.block 1 (.seq (.region 3 kO3 true) (.seq (.region 4 kO4 false) (.cond (.tmp 30) .ret .skip)))) (.region 2 kO2 false)) := by kernel_rfl
theorem kBody_eq : kBody = .seq (.region 0 (gOps (gFst kBody)) false) (.block 0 (.loop kLoop)) := by kernel_rfl
theorem kO4_size : kO4.size = 12 := by kernel_rfl
theorem sfK : ∃ fn, Tryd.prog.funcs[64]? = some fn := ⟨_, Tryd.func64⟩

def TKi (l sb nb : Nat) (x : Int) (T : Array Value) : Prop := ∃ f : Nat → Value, T = #[.func (.yield l) #[] #[], .pointer (some ⟨sb, 0, none⟩), .pointer (some ⟨nb, 0, none⟩), f 3, .int .i64 x, f 5, f 6, f 7, f 8, f 9, f 10, f 11, f 12, f 13, f 14, f 15, f 16, f 17, f 18, f 19, f 20, f 21, f 22, f 23, f 24, f 25, f 26, f 27, f 28, f 29, f 30]
theorem tk_mk {l sb nb : Nat} {x : Int} {T : Array Value} (h : T = #[.func (.yield l) #[] #[], .pointer (some ⟨sb, 0, none⟩), .pointer (some ⟨nb, 0, none⟩), T.getD 3 undef, .int .i64 x, T.getD 5 undef, T.getD 6 undef, T.getD 7 undef, T.getD 8 undef, T.getD 9 undef, T.getD 10 undef, T.getD 11 undef, T.getD 12 undef, T.getD 13 undef, T.getD 14 undef, T.getD 15 undef, T.getD 16 undef, T.getD 17 undef, T.getD 18 undef, T.getD 19 undef, T.getD 20 undef, T.getD 21 undef, T.getD 22 undef, T.getD 23 undef, T.getD 24 undef, T.getD 25 undef, T.getD 26 undef, T.getD 27 undef, T.getD 28 undef, T.getD 29 undef, T.getD 30 undef]) : TKi l sb nb x T := ⟨fun i => T.getD i undef, h⟩
def TK (l sb nb p : Nat) (T : Array Value) : Prop := TKi l sb nb ((p : Nat) : Int) T

def TK5 (l sb nb p m : Nat) (T : Array Value) : Prop := ∃ f : Nat → Value, T = #[.func (.yield l) #[] #[], .pointer (some ⟨sb, 0, none⟩), .pointer (some ⟨nb, 0, none⟩), f 3, .int .i64 ((p : Nat) : Int), .int .i64 ((m : Nat) : Int), f 6, f 7, f 8, f 9, f 10, f 11, f 12, f 13, f 14, f 15, f 16, f 17, f 18, f 19, f 20, f 21, f 22, f 23, f 24, f 25, f 26, f 27, f 28, f 29, f 30]
theorem tk5_mk {l sb nb p m : Nat} {T : Array Value} (h : T = #[.func (.yield l) #[] #[], .pointer (some ⟨sb, 0, none⟩), .pointer (some ⟨nb, 0, none⟩), T.getD 3 undef, .int .i64 ((p : Nat) : Int), .int .i64 ((m : Nat) : Int), T.getD 6 undef, T.getD 7 undef, T.getD 8 undef, T.getD 9 undef, T.getD 10 undef, T.getD 11 undef, T.getD 12 undef, T.getD 13 undef, T.getD 14 undef, T.getD 15 undef, T.getD 16 undef, T.getD 17 undef, T.getD 18 undef, T.getD 19 undef, T.getD 20 undef, T.getD 21 undef, T.getD 22 undef, T.getD 23 undef, T.getD 24 undef, T.getD 25 undef, T.getD 26 undef, T.getD 27 undef, T.getD 28 undef, T.getD 29 undef, T.getD 30 undef]) : TK5 l sb nb p m T := ⟨fun i => T.getD i undef, h⟩
section
variable {X : Nat → Prop} {Y : Nat → Option Obj} {D : Nat → World → Array Event → Prop} {Stop : Goroutine → World → Prop} {v : World} {cs : List Frame} {cfr : Frame}
set_option maxHeartbeats 8000000 in
set_option maxRecDepth 100000 in
theorem chunk1I (hD : Dok X D) (l sb nb b off len cap c : Nat) (hc : 1 ≤ c) (hc2 : c ≤ 65536) (hlen : len ≤ 1000000) (hcap : len ≤ cap) (ba : Option Addr) (hba : 0 < len → ba = some ⟨b, off, none⟩) (r : Loop) (hps : r.params.size = 1) (hO : Ours X Y l)
    (Inv : Nat → World → Prop) (hI : ∀ j v, Inv j v → Boxed v sb 29 (.slice ba len cap) ∧ Boxed v nb 3 (.int .i64 (c : Int)) ∧ v.heap[l]? = some (.loop r)) (_hIt : ∀ j (v : World) τ d, Inv j v → Inv j { v with tape := τ, drawn := d })
    (round : ∀ (j : Nat) (v : World) (cfr : Frame) (cs : List Frame), j * c < len → Inv j v → (∀ v', Inv (j + 1) v' → ∀ w, SimT X Y w v' → GoesI Tryd.prog D Stop (G (cfr.finish (.bool true)) cs) w) →
      ReaR Tryd.prog X Y D Stop (some l) [] r.fn (cfr :: cs) [.code r.assign, .beginRound, .code r.body] ((r.params.zip #[frameV b off len c j]).foldl (fun tmps (t, a) => tmps.setIfInBounds t a) r.tmps) v)
    (done : ∀ v, Inv (nFr c len) v → ∀ w, SimT X Y w v → GoesI Tryd.prog D Stop (G (cfr.finish (.tuple #[])) cs) w) :
    ∀ (q j : Nat) (T : Array Value) (v : World), j + q = nFr c len → TK l sb nb (j * c) T → Inv j v → ReaR Tryd.prog X Y D Stop none [] 64 (cfr :: cs) [.code kLoop, .inLoop kLoop, .inBlock 0] T v := by
  intro q
  induction q with
  | zero =>
    intro j T v hj ⟨f, hT⟩ hinv
    obtain rfl : j = nFr c len := by omega
    subst hT
    obtain ⟨hs, hn, hl⟩ := hI _ _ hinv
    have hge : ¬ (nFr c len * c < len) := fun h => by have := (nFr_lt hc).2 h; omega
    have hnl : ¬ (((nFr c len * c : Nat) : Int) < (len : Int)) := by omega
    generalize nFr c len * c = p at *
    rw [kLoop_eq]
    refine reaR_split hD (reaR_split hD (reaR_go goodF hD (by kernel_rfl) sfK fun R hR τ d => ?_))
    have cS := Boxed.cell (W := { v with tape := τ, drawn := d }) hs
    simp only [kO1, qk1]
    go_wp2
    change ReaR _ _ _ _ _ _ _ _ _ _ _ v
    refine reaR_cond (b := false) hD (by simp) (reaR_exit hD rfl ?_)
    exact reaR_fall hD Tryd.func64 (fun τ d => results_none (fn := Tryd.f64) rfl _ _ _) (done v hinv)
  | succ q ih =>
    intro j T v hj ⟨f, hT⟩ hinv
    subst hT
    obtain ⟨hs, hn, hl⟩ := hI _ _ hinv
    have hlt : j * c < len := (nFr_lt hc).1 (by omega)
    have hk1 : Hid ((j + 1) * c = j * c + c) := by show _ = _; rw [Nat.add_mul, Nat.one_mul]
    have hrd := fun cfr cs => round j v cfr cs hlt hinv
    obtain rfl := hba (by omega)
    unfold frameV at hrd
    generalize j * c = p at *
    have hlt' : (p : Int) < (len : Int) := by omega
    obtain ⟨m, em⟩ : ∃ m, min c (len - p) = m := ⟨_, rfl⟩
    rw [em] at hrd
    have hm : m ≤ c ∧ m ≤ len - p ∧ 1 ≤ m := by omega
    have hwr : IntKind.i64.wrap ((p : Int) + (m : Int)) = (p : Int) + (m : Int) := by rw [IntKind.wrap_i64]; omega
    have htn : ((p : Int) + (m : Int)).toNat = p + m := by omega
    have key : ∀ T, TK5 l sb nb p m T → ReaR Tryd.prog X Y D Stop none [] 64 (cfr :: cs) [.code (.seq (.region 4 kO4 false) (.cond (.tmp 30) .ret .skip)), .inBlock 1, .code (.region 2 kO2 false), .inLoop kLoop, .inBlock 0] T v := by
      rintro T ⟨f, hT⟩
      subst hT
      refine reaR_split hD (reaR_region hD ?_)
      rw [kO4_size]
      simp only [List.range, List.range.loop]
      refine reaR_op goodF hD (.func (.yield l) #[] #[]) (by simp only [kO4, qk4]; rfl) rfl (by kernel_rfl) (fun z _ => by go_simp) ?_
      walk_nrm
      refine reaR_op goodF hD (.slice (some ⟨b, off, none⟩) len cap) (by simp only [kO4, qk4]; rfl) rfl (by kernel_rfl) (fun z hz => by have cS := Boxed.cell (W := z) (show z.heap[sb]? = _ by rw [hz]; exact hs); go_simp) ?_
      walk_nrm
      refine reaR_op goodF hD (.int .i64 (p : Int)) (by simp only [kO4, qk4]; rfl) rfl (by kernel_rfl) (fun z _ => by go_simp) ?_
      walk_nrm
      refine reaR_op goodF hD (.int .i64 (p : Int)) (by simp only [kO4, qk4]; rfl) rfl (by kernel_rfl) (fun z _ => by go_simp) ?_
      walk_nrm
      refine reaR_op goodF hD (.int .i64 (m : Int)) (by simp only [kO4, qk4]; rfl) rfl (by kernel_rfl) (fun z _ => by go_simp) ?_
      walk_nrm
      refine reaR_op goodF hD (.int .i64 ((p : Int) + (m : Int))) (by simp only [kO4, qk4]; rfl) rfl (by kernel_rfl) (fun z _ => by go_simp) ?_
      walk_nrm
      refine reaR_op goodF hD (.int .i64 (p : Int)) (by simp only [kO4, qk4]; rfl) rfl (by kernel_rfl) (fun z _ => by go_simp) ?_
      walk_nrm
      refine reaR_op goodF hD (.int .i64 (m : Int)) (by simp only [kO4, qk4]; rfl) rfl (by kernel_rfl) (fun z _ => by go_simp) ?_
      walk_nrm
      refine reaR_op goodF hD (.int .i64 ((p : Int) + (m : Int))) (by simp only [kO4, qk4]; rfl) rfl (by kernel_rfl) (fun z _ => by go_simp) ?_
      walk_nrm
      refine reaR_op goodF hD (.slice (some ⟨b, off + p, none⟩) m m) (by simp only [kO4, qk4]; rfl) rfl (by kernel_rfl) (fun z _ => by
        go_simp
        rw [if_pos (by omega), if_pos (by omega), if_neg (by omega)]) ?_
      walk_nrm
      refine reaR_yield hD (t := 19) (vs := #[.slice (some ⟨b, off + p, none⟩) m m]) (by simp only [kO4, qk4]; rfl) rfl (by rfl) rfl (by simp [Act.eval]) hl hO (by rw [hps]; rfl) ?_
      refine hrd _ _ fun v' hinv' => ?_
      obtain ⟨hs', hn', hl'⟩ := hI _ _ hinv'
      rw [Dn_finish (by simp only [kO4, qk4]; rfl)]
      show ReaR _ _ _ _ _ _ _ _ _ _ _ _
      walk_nrm
      refine reaR_op goodF hD (.bool false) (by simp only [kO4, qk4]; rfl) rfl (by kernel_rfl) (fun z _ => by go_simp) ?_
      walk_nrm
      refine reaR_endReg hD (reaR_cond (b := false) hD (by simp) (reaR_skip hD (reaR_inBlock hD (reaR_go goodF hD (by kernel_rfl) sfK fun R hR τ d => ?_))))
      have cN := Boxed.cell (W := { v' with tape := τ, drawn := d }) hn'
      simp only [kO2, qk2]
      go_wp2
      change ReaR _ _ _ _ _ _ _ _ _ _ _ v'
      refine reaR_inLoop hD (ih (j + 1) _ v' (by omega) ?_ hinv')
      rw [hk1.out]
      unfold TK
      rw [Int.natCast_add]
      exact tk_mk rfl
    rw [show [Item.code kLoop, Item.inLoop kLoop, Item.inBlock 0] = [Item.code (.seq (.seq (.region 1 kO1 false) (.cond (.tmp 9) .skip (.exit 0))) (.seq (.block 1 (.seq (.region 3 kO3 true) (.seq (.region 4 kO4 false) (.cond (.tmp 30) .ret .skip)))) (.region 2 kO2 false))), Item.inLoop kLoop, Item.inBlock 0] by rw [← kLoop_eq]]
    refine reaR_split hD (reaR_split hD (reaR_go goodF hD (by kernel_rfl) sfK fun R hR τ d => ?_))
    have cS := Boxed.cell (W := { v with tape := τ, drawn := d }) hs
    simp only [kO1, qk1]
    go_wp2
    change ReaR _ _ _ _ _ _ _ _ _ _ _ v
    refine reaR_cond (b := true) hD (by simp) (reaR_skip hD (reaR_split hD (reaR_block hD (reaR_split hD (reaR_go goodF hD (by kernel_rfl) sfK fun R hR τ d => ?_)))))
    clear cS
    have cS := Boxed.cell (W := { v with tape := τ, drawn := d }) hs
    have cN := Boxed.cell (W := { v with tape := τ, drawn := d }) hn
    have hkey : ∀ n T, TK5 l sb nb p m T → R ⟨T, []⟩ (World.drewN { v with tape := τ, drawn := d } n) := fun n T hT => hR _ _ (key T hT)
    simp only [kO3, qk3]
    clear key hR hrd ih round done hI _hIt hinv
    generalize ({ v with tape := τ, drawn := d } : World) = vv at cS cN hkey ⊢
    rcases Nat.lt_or_ge (len - p) c with q2 | q2
    · obtain rfl : m = len - p := by omega
      go_wp2
      go_quiet (fail)
      exact ⟨rfl, rfl, hkey _ _ (tk5_mk rfl)⟩
    · obtain rfl : m = c := by omega
      go_wp2
      go_quiet (fail)
      exact ⟨rfl, rfl, hkey _ _ (tk5_mk rfl)⟩
/-- From the function's beginning. -/
theorem chunk1_start (hD : Dok X D) (l sb nb : Nat) (h : ∀ T, TK l sb nb 0 T → ReaR Tryd.prog X Y D Stop none [] 64 cs [.code kLoop, .inLoop kLoop, .inBlock 0] T v) :
    ReaR Tryd.prog X Y D Stop none [] 64 cs [.code kBody] (#[.func (.yield l) #[] #[]] ++ #[.pointer (some ⟨sb, 0, none⟩), .pointer (some ⟨nb, 0, none⟩)] ++ Array.replicate 28 undef) v := by
  rw [kBody_eq]
  simp only [Array.replicate_succ, Array.replicate_zero, List.push_toArray, List.append_toArray, List.nil_append, List.cons_append]
  refine reaR_split hD (reaR_go goodF hD (by kernel_rfl) sfK fun R hR τ d => ?_)
  unfold kBody
  simp only [gFst, gOps, Tryd.f64, Option.getD_some]
  go_wp2
  change ReaR _ _ _ _ _ _ _ _ _ _ _ v
  exact reaR_block hD (reaR_loop hD (h _ (tk_mk rfl)))
end
end Go.Proofs.YtkpcmfgeanlcnabDoor

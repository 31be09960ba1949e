/-
  From the join back: archive.Encode, Encode, encoded, the statement: beside those that leave.
-/
import Derived.Test.YtkpcmfgeanlcnabDoorEnX
namespace Go.Proofs.YtkpcmfgeanlcnabDoor
open Go.RowKit Go.Deep Go.Lf Go.Conc Go.Hp

section
variable {X : Nat → Prop} {Y : Nat → Option Obj} {D : Nat → World → Array Event → Prop} {Stop : Goroutine → World → Prop} {v : World} {cs : List Frame} {cfr : Frame}
set_option maxHeartbeats 8000000 in
set_option maxRecDepth 100000 in
theorem backA (hD : Dok X D) {pc bh Cc N : Nat} {vn vs vm x : Value} {T : Array Value} {rest : List Nat} (hT : TA pc vn vs vm (.slice (some ⟨bh, 0, none⟩) N N) x T) (hL : Left x rest)
    (hnext : ∀ T, TL pc bh Cc N vn vs vm 0 T → ReaR Tryd.prog X Y D Stop none [] 12 cs [.code aLoop, .inLoop aLoop, .inBlock 0, .code aRest] T v) :
    ∀ w, SimT X Y w v → GoesI Tryd.prog D Stop (G ((frameA T rest).finish (.slice (some ⟨Cc, 0, none⟩) N N)) cs) w := by
  rw [show frameA T rest = Dn none [] 12 T (.inRegion aO6 (6 :: rest) :: [.code (.block 0 (.loop aLoop)), .code aRest]) from rfl]
  rw [Dn_finish (by simp only [aO6, qa6]; rfl)]
  show ReaR _ _ _ _ _ _ _ _ _ _ _ _
  obtain ⟨f, rfl⟩ := hT
  walk_nrm
  rcases hL with ⟨rfl, rfl⟩ | rfl | rfl
  · refine reaR_op goodF hD (.int .i64 ((N : Nat) : Int)) (by simp only [aO6, qa6]; rfl) rfl (by kernel_rfl) (fun z _ => by go_simp) ?_
    walk_nrm
    exact reaR_endReg hD (reaR_block hD (reaR_loop hD (hnext _ (tl_mk rfl))))
  · refine reaR_op goodF hD (.int .i64 ((N : Nat) : Int)) (by simp only [aO6, qa6]; rfl) rfl (by kernel_rfl) (fun z _ => by go_simp) ?_
    walk_nrm
    refine reaR_op goodF hD (.int .i64 0) (by simp only [aO6, qa6]; rfl) rfl (by kernel_rfl) (fun z _ => by go_simp) ?_
    walk_nrm
    exact reaR_endReg hD (reaR_block hD (reaR_loop hD (hnext _ (tl_mk rfl))))
  · refine reaR_op goodF hD (.int .i64 0) (by simp only [aO6, qa6]; rfl) rfl (by kernel_rfl) (fun z _ => by go_simp) ?_
    walk_nrm
    refine reaR_op goodF hD (.int .i64 ((N : Nat) : Int)) (by simp only [aO6, qa6]; rfl) rfl (by kernel_rfl) (fun z _ => by go_simp) ?_
    walk_nrm
    exact reaR_endReg hD (reaR_block hD (reaR_loop hD (hnext _ (tl_mk rfl))))

set_option maxHeartbeats 8000000 in
set_option maxRecDepth 100000 in
theorem backEn (hD : Dok X D) {T : Array Value} (hT : T28 T) {vh : Value}
    (hnext : ∀ w, SimT X Y w v → GoesI Tryd.prog D Stop (G (cfr.finish (.tuple #[vh, .int .i64 0])) cs) w) :
    ∀ w, SimT X Y w v → GoesI Tryd.prog D Stop (G ((frameen T).finish (.tuple #[vh, .bool true])) (cfr :: cs)) w := by
  rw [show frameen T = Dn none [] 7 T (.inRegion enO [2, 3, 4, 5, 6, 7] :: [.code enD]) from rfl]
  rw [Dn_finish (by simp only [enO, qen]; rfl)]
  show ReaR _ _ _ _ _ _ _ _ _ _ _ _
  obtain ⟨f, rfl⟩ := hT
  walk_nrm
  refine reaR_op goodF hD (.tuple #[vh, .bool true]) (by simp only [enO, qen]; rfl) rfl (by kernel_rfl) (fun z _ => by go_simp) ?_
  walk_nrm
  refine reaR_op goodF hD vh (by simp only [enO, qen]; rfl) rfl (by kernel_rfl) (fun z _ => by go_simp) ?_
  walk_nrm
  refine reaR_op goodF hD (.bool true) (by simp only [enO, qen]; rfl) rfl (by kernel_rfl) (fun z _ => by go_simp) ?_
  walk_nrm
  refine reaR_op goodF hD vh (by simp only [enO, qen]; rfl) rfl (by kernel_rfl) (fun z _ => by go_simp) ?_
  walk_nrm
  refine reaR_op goodF hD (.bool true) (by simp only [enO, qen]; rfl) rfl (by kernel_rfl) (fun z _ => by go_simp) ?_
  walk_nrm
  refine reaR_endReg hD ?_
  unfold enD enC enBody
  simp only [gSnd, Tryd.f7, Option.getD_some]
  refine reaR_split hD (reaR_go goodF hD (by kernel_rfl) sfen fun R hR τ d => ?_)
  go_wp2
  change ReaR _ _ _ _ _ _ _ _ _ _ _ v
  refine reaR_split hD (reaR_go goodF hD (by kernel_rfl) sfen fun R hR τ d => ?_)
  go_wp2
  change ReaR _ _ _ _ _ _ _ _ _ _ _ v
  refine reaI_ret (a := ⟨_, []⟩) hD rfl Tryd.func7 (fun τ d => results_tmp2 (fn := Tryd.f7) (t := 4) (u := 5) rfl _ _ _) ?_
  exact hnext

end
end Go.Proofs.YtkpcmfgeanlcnabDoor

/-
  From the join back to the statement.
-/
import Derived.Test.YtkpcmfgeanlcnaaSvP
import Derived.Test.YtkpcmfgeanlcnaaCoU
namespace Go.Proofs.Ytkpcmfgeanlcnaa
open Go.RowKit Go.Deep Go.Lf Go.Conc

section
variable {P : Program} {F : FuncId → Bool} {X : Nat → Prop} {Y : Nat → Option Obj} {D : Array Event → Prop} {Stop : Goroutine → World → Prop} {f : FuncId} {k : List Item} {cs : List Frame} {a : Act} {v : World} {ops : Array Oper} {i : Nat} {rest : List Nat} {o : Oper}
theorem reaI_tape (τ : Nat → Question → Nat) (d : Nat) (h : ReaI P X Y D Stop f cs k a v) : ReaI P X Y D Stop f cs k a { v with tape := τ, drawn := d } := fun w ⟨τ0, d0, hs⟩ => h w ⟨τ0, d0, hs⟩
theorem reaI_op0 (hF : GoodF P F) (hD : ∀ w es, EvsP X w es → D es) (u : Value) (ho : ops[i]? = some o) (hw : Region.wanted o (yielded ops a.tmps) = true) (hok : okOp P F o = true) (hrun : ∀ z : World, (execOp a.eval o).run P z = .ok (.value u) z) (h : ReaI P X Y D Stop f cs (.inRegion ops rest :: k) (a.put o.dst u) v) : ReaI P X Y D Stop f cs (.inRegion ops (i :: rest) :: k) a v :=
  reaI_op hF hD ho hw hok fun τ d => ⟨_, hrun _, reaI_tape τ d h⟩
end

section
variable {X : Nat → Prop} {Y : Nat → Option Obj} {D : Array Event → Prop} {Stop : Goroutine → World → Prop} {v : World} {K N L p Rb bc cap C ba Wg j : Nat} {E : Env} {yv xv : Nat → Nat → Nat} {q : CL} {bd dN : Nat → Nat}
set_option maxHeartbeats 8000000 in
set_option maxRecDepth 100000 in
theorem back7 (hD : ∀ w es, EvsP X w es → D es) {T7 : Array Value} (h7 : TSol p Rb N L bc K cap T7) (hS : SufF K N L yv p Rb bc q bd C dN xv v)
    (hend : ∀ (T' : Array Value) (v' : World), T'.getD 10 undef = .bool true → Alk v' v → ReaI Try.prog X Y D Stop 7 [] [.code .ret] ⟨T', []⟩ v') :
    ∀ w, SimT X Y w v → GoesI Try.prog D Stop (G ((frame7 T7).finish (.tuple #[.slice (some ⟨C, 0, none⟩) K K, .int .i64 0])) []) w := by
  have hD0 : D #[] := hD ⟨#[], fun _ _ => 0, 0, default, #[]⟩ #[] fun _ he => by simp at he
  obtain ⟨f, rfl⟩ := h7
  have e : ∀ T, (frame7 T).finish (.tuple #[.slice (some ⟨C, 0, none⟩) K K, .int .i64 0]) = (base 7).at (Act.put ⟨T, []⟩ (some 103) (.tuple #[.slice (some ⟨C, 0, none⟩) K K, .int .i64 0])) (.inRegion r20 [6, 7, 8, 9, 10] :: [.code c21]) := fun T => by
    unfold frame7
    rw [Frame.finish_at]
    simp only [r20, q7]
    rfl
  rw [e]
  intro w hs
  revert w
  show ReaI _ _ _ _ _ _ _ _ _ _
  walk_nrm
  refine reaI_op0 goodF hD (.tuple #[.slice (some ⟨C, 0, none⟩) K K, .int .i64 0]) (by simp only [r20, q7]; rfl) rfl (by kernel_rfl) (fun z => by go_simp) ?_
  walk_nrm
  refine reaI_op0 goodF hD (.slice (some ⟨C, 0, none⟩) K K) (by simp only [r20, q7]; rfl) rfl (by kernel_rfl) (fun z => by go_simp) ?_
  walk_nrm
  refine reaI_op0 goodF hD (.int .i64 0) (by simp only [r20, q7]; rfl) rfl (by kernel_rfl) (fun z => by go_simp) ?_
  walk_nrm
  refine reaI_op0 goodF hD (.slice (some ⟨C, 0, none⟩) K K) (by simp only [r20, q7]; rfl) rfl (by kernel_rfl) (fun z => by go_simp) ?_
  walk_nrm
  refine reaI_op0 goodF hD (.int .i64 0) (by simp only [r20, q7]; rfl) rfl (by kernel_rfl) (fun z => by go_simp) ?_
  walk_nrm
  refine reaI_end hD0 ?_
  refine solved_post (cap := cap) hD ?_ hS hend
  exact tsuf_mk rfl

set_option maxHeartbeats 8000000 in
set_option maxRecDepth 100000 in
theorem back18 (hD : ∀ w es, EvsP X w es → D es) {T18 T7 : Array Value} (h18 : T20 T18) (h7 : TSol p Rb N L bc K cap T7) (hS : SufF K N L yv p Rb bc q bd C dN xv v)
    (hend : ∀ (T' : Array Value) (v' : World), T'.getD 10 undef = .bool true → Alk v' v → ReaI Try.prog X Y D Stop 7 [] [.code .ret] ⟨T', []⟩ v') :
    ∀ w, SimT X Y w v → GoesI Try.prog D Stop (G ((frame18 T18).finish (.slice (some ⟨C, 0, none⟩) K K)) [frame7 T7]) w := by
  have hD0 : D #[] := hD ⟨#[], fun _ _ => 0, 0, default, #[]⟩ #[] fun _ he => by simp at he
  obtain ⟨f, rfl⟩ := h18
  have e : ∀ T, (frame18 T).finish (.slice (some ⟨C, 0, none⟩) K K) = (base 18).at (Act.put ⟨T, []⟩ (some 19) (.slice (some ⟨C, 0, none⟩) K K)) (.inRegion rc18 [3, 4] :: [.code .ret]) := fun T => by
    unfold frame18
    rw [Frame.finish_at]
    simp only [rc18, qc18]
    rfl
  rw [e]
  intro w hs
  revert w
  show ReaI _ _ _ _ _ _ _ _ _ _
  walk_nrm
  refine reaI_op0 goodF hD (.slice (some ⟨C, 0, none⟩) K K) (by simp only [rc18, qc18]; rfl) rfl (by kernel_rfl) (fun z => by go_simp) ?_
  walk_nrm
  refine reaI_op0 goodF hD (.int .i64 0) (by simp only [rc18, qc18]; rfl) rfl (by kernel_rfl) (fun z => by go_simp) ?_
  walk_nrm
  refine reaI_end hD0 ?_
  refine reaI_ret (y := .tuple #[.slice (some ⟨C, 0, none⟩) K K, .int .i64 0]) hD rfl Try.func18 (fun τ d => ?_) (back7 hD h7 hS hend)
  exact results_tmp2 (fn := Try.f18) (t := 6) (u := 7) rfl _ _ _

set_option maxHeartbeats 8000000 in
set_option maxRecDepth 100000 in
theorem back31 (hD : ∀ w es, EvsP X w es → D es) {T T18 T7 : Array Value} {ops : Array Oper} (hT : TS E Wg K j T) (hba : v.cell? ⟨E.ba, 0, none⟩ = some (.slice (some ⟨C, 0, none⟩) K K)) (h18 : T20 T18) (h7 : TSol p Rb N L bc K cap T7) (hS : SufF K N L yv p Rb bc q bd C dN xv v)
    (hend : ∀ (T' : Array Value) (v' : World), T'.getD 10 undef = .bool true → Alk v' v → ReaI Try.prog X Y D Stop 7 [] [.code .ret] ⟨T', []⟩ v') :
    ReaI Try.prog X Y D Stop 31 [frame18 T18, frame7 T7] (.inRegion ops [] :: [.code rEnd2]) ⟨T, []⟩ v := by
  have hD0 : D #[] := hD ⟨#[], fun _ _ => 0, 0, default, #[]⟩ #[] fun _ he => by simp at he
  obtain ⟨v0, v1, v2, v3, v4, v5, v6, v8, v9, v13, v14, v15, v16, v17, v18, v19, v20, v21, v22, v23, v24, v25, v26, v27, v28, v29, v30, v31, v32, v33, v34, v35, v36, v37, v38, v39, v40, v41, v42, v43, v44, v45, v46, v50, v51, v52, v53, v54, v55, v56, v57, v58, v59, v60, v61, v62, v63, v64, v65, v66, v67, v68, rfl⟩ := hT
  refine reaI_end hD0 ?_
  unfold rEnd2
  simp only [o22, q22]
  refine reachI_go goodF hD (by kernel_rfl) rfl sf31 fun R hR τ d' => ?_
  have hb1 : ({ v with tape := τ, drawn := d' } : World).cell? ⟨E.ba, 0, none⟩ = some (.slice (some ⟨C, 0, none⟩) K K) := hba
  have hv1 : Alk { v with tape := τ, drawn := d' } v := ⟨rfl, rfl, rfl⟩
  have hS1 := hS.heap (v' := { v with tape := τ, drawn := d' }) rfl
  generalize { v with tape := τ, drawn := d' } = v1 at hb1 hv1 hS1 ⊢
  go_wp2
  refine reaI_ret (y := .slice (some ⟨C, 0, none⟩) K K) hD rfl Try.func31 (fun τ d => ?_) (back18 hD h18 h7 hS1 (fun T' v' h1 h2 => hend T' v' h1 ⟨h2.1.trans hv1.1, h2.2.1.trans hv1.2.1, h2.2.2.trans hv1.2.2⟩))
  exact results_tmp (fn := Try.f31) (t := 4) rfl _ _ _
end
end Go.Proofs.Ytkpcmfgeanlcnaa

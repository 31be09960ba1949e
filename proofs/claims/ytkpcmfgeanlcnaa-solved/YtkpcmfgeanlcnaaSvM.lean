/-
  The statement calls Rebuild, Rebuild the one within.
-/
import Derived.Test.YtkpcmfgeanlcnaaSvL
import Derived.Test.YtkpcmfgeanlcnaaLfK
import Derived.Test.YtkpcmfgeanlcnaaCoT
namespace Go.Proofs.Ytkpcmfgeanlcnaa
open Go.RowKit Go.Deep Go.Lf Go.Conc

def cOps7 : Code → Array Oper | .region _ o _ => o | _ => #[]
noncomputable def q7 : {x : Array Oper // x = cOps7 (cFst7 c20)} := ⟨_, by simp only [c20, body7, cFst7, cSnd7, cOps7, Try.f7, Option.getD_some]; rfl⟩
noncomputable def r20 : Array Oper := q7.1
noncomputable def c21 : Code := cSnd7 c20
theorem c20_eq : c20 = .seq (.region 20 r20 false) c21 := by kernel_rfl
theorem n7 : r20.size = 11 := by kernel_rfl
noncomputable def body18 : Code := Try.f18.body.getD .skip
noncomputable def frame7 (T : Array Value) : Frame := (base 7).at ⟨T, []⟩ (.inRegion r20 [5, 6, 7, 8, 9, 10] :: [.code c21])
theorem sf18 : ∃ fn, Try.prog.funcs[18]? = some fn := ⟨_, Try.func18⟩
theorem sf31 : ∃ fn, Try.prog.funcs[31]? = some fn := ⟨_, Try.func31⟩

section
variable {Y : Nat → Option Obj} {Φ : Goroutine → World → Prop} {w0 w : World} {K N L p Rb bc cap : Nat} {yv : Nat → Nat → Nat} {q : CL} {bd : Nat → Nat}
set_option maxHeartbeats 4000000 in
set_option maxRecDepth 100000 in
theorem to_rebuild {T : Array Value} (hT : TSol p Rb N L bc K cap T) (hS : SolF w0 K N L yv p Rb bc q bd w)
    (hnext : ∀ T', TSol p Rb N L bc K cap T' → Rea Try.prog Y Φ 18 [frame7 T'] [.code body18] ⟨#[.int .i64 (K : Int), .int .i64 (N : Int), .slice (some ⟨bc, 0, none⟩) K cap] ++ Array.replicate 17 undef, []⟩ w) :
    Rea Try.prog Y Φ 7 [] [.code c20] ⟨T, []⟩ w := by
  obtain ⟨f, rfl⟩ := hT
  have h0 := hS.par0
  have h1 := hS.par1
  rw [c20_eq]
  refine reach_split rfl (rea_region ?_)
  rw [n7]
  simp only [List.range, List.range.loop]
  refine rea_op goodF (u := (.pointer (some ⟨p, 0, none⟩))) (v' := w) (by simp only [r20, q7]; rfl) rfl (by kernel_rfl) (by go_simp) ?_
  walk_nrm
  refine rea_op goodF (u := (.int .i64 (K : Int))) (v' := w) (by simp only [r20, q7]; rfl) rfl (by kernel_rfl) (by go_simp) ?_
  walk_nrm
  refine rea_op goodF (u := (.pointer (some ⟨p, 1, none⟩))) (v' := w) (by simp only [r20, q7]; rfl) rfl (by kernel_rfl) (by go_simp) ?_
  walk_nrm
  refine rea_op goodF (u := (.int .i64 (N : Int))) (v' := w) (by simp only [r20, q7]; rfl) rfl (by kernel_rfl) (by go_simp) ?_
  walk_nrm
  refine rea_op goodF (u := (.slice (some ⟨bc, 0, none⟩) K cap)) (v' := w) (by simp only [r20, q7]; rfl) rfl (by kernel_rfl) (by go_simp) ?_
  walk_nrm
  refine rea_call (by simp only [r20, q7]; rfl) rfl (by rfl) Try.func18 (by kernel_rfl) (c := body18) (by kernel_rfl) (vs := #[.int .i64 (K : Int), .int .i64 (N : Int), .slice (some ⟨bc, 0, none⟩) K cap]) (n := 17) (by simp [Act.eval]) (by kernel_rfl) ?_
  unfold frame7 at hnext
  refine hnext _ ?_
  exact tsol_mk rfl

noncomputable def c18 : Code := cSnd7 (cSnd7 (cSnd7 body18))
noncomputable def qc18 : {x : Array Oper // x = cOps7 (cFst7 c18)} := ⟨_, by simp only [c18, body18, cFst7, cSnd7, cOps7, Try.f18, Option.getD_some]; rfl⟩
noncomputable def rc18 : Array Oper := qc18.1
noncomputable def d18 : Code := cSnd7 c18
theorem c18_eq : c18 = .seq (.region 5 rc18 false) d18 := by kernel_rfl
theorem d18_eq : d18 = .ret := by kernel_rfl
theorem nc18 : rc18.size = 5 := by kernel_rfl
noncomputable def body31 : Code := Try.f31.body.getD .skip
noncomputable def frame18 (T : Array Value) : Frame := (base 18).at ⟨T, []⟩ (.inRegion rc18 [2, 3, 4] :: [.code .ret])
def T20 (T : Array Value) : Prop := ∃ f : Nat → Value, T = #[f 0, f 1, f 2, f 3, f 4, f 5, f 6, f 7, f 8, f 9, f 10, f 11, f 12, f 13, f 14, f 15, f 16, f 17, f 18, f 19]
theorem t20_mk {T : Array Value} (h : T = #[T.getD 0 undef, T.getD 1 undef, T.getD 2 undef, T.getD 3 undef, T.getD 4 undef, T.getD 5 undef, T.getD 6 undef, T.getD 7 undef, T.getD 8 undef, T.getD 9 undef, T.getD 10 undef, T.getD 11 undef, T.getD 12 undef, T.getD 13 undef, T.getD 14 undef, T.getD 15 undef, T.getD 16 undef, T.getD 17 undef, T.getD 18 undef, T.getD 19 undef]) : T20 T := ⟨fun i => T.getD i undef, h⟩

set_option maxHeartbeats 4000000 in
set_option maxRecDepth 100000 in
theorem to_inner {T7 : Array Value} (hS : SolF w0 K N L yv p Rb bc q bd w)
    (hnext : ∀ T18 w', T20 T18 → SolF w0 K N L yv p Rb bc q bd w' → Rea Try.prog Y Φ 31 [frame18 T18, frame7 T7] [.code body31] ⟨#[.int .i64 (K : Int), .slice (some ⟨bc, 0, none⟩) K cap] ++ Array.replicate 67 undef, []⟩ w') :
    Rea Try.prog Y Φ 18 [frame7 T7] [.code body18] ⟨#[.int .i64 (K : Int), .int .i64 (N : Int), .slice (some ⟨bc, 0, none⟩) K cap] ++ Array.replicate 17 undef, []⟩ w := by
  have hn := hS.num
  have c1 := partsFit_any (K : Int) (N : Int)
  rw [fitB_yes (by omega) (by omega) (by omega)] at c1
  have c2 := columnsFit_any K N bc cap q w (by omega) (by omega) (by omega) hS.ixN hS.cols hS.inj
  unfold body18
  simp only [Try.f18, Option.getD_some, Array.replicate_succ, Array.replicate_zero, List.push_toArray, List.append_toArray, List.nil_append, List.cons_append]
  generalize hcs : [frame7 T7] = cs at *
  refine reach_go goodF (by kernel_rfl) rfl sf18 fun R hR => ?_
  go_wp2
  refine reach_go goodF (by kernel_rfl) rfl sf18 fun R hR => ?_
  go_wp2_with (first | (go_at_call 28; (with_reducible refine (c1 _).mono ?_); rintro e w' ⟨rfl, hw'⟩; obtain rfl := hw'.symm))
  refine reach_go goodF (by kernel_rfl) rfl sf18 fun R hR => ?_
  go_wp2_with (first | (go_at_call 30; (with_reducible refine c2.mono ?_); rintro e w1 ⟨rfl, hb1⟩))
  have hS1 := hS.keep hb1
  change Rea _ _ _ _ _ [Item.code (Code.seq (Code.region 5 rc18 false) Code.ret)] _ _
  refine reach_split rfl (rea_region ?_)
  rw [nc18]
  simp only [List.range, List.range.loop]
  refine rea_op goodF (u := .int .i64 (K : Int)) (v' := w1) (by simp only [rc18, qc18]; rfl) rfl (by kernel_rfl) (by go_simp) ?_
  walk_nrm
  refine rea_op goodF (u := .slice (some ⟨bc, 0, none⟩) K cap) (v' := w1) (by simp only [rc18, qc18]; rfl) rfl (by kernel_rfl) (by go_simp) ?_
  walk_nrm
  refine rea_call (by simp only [rc18, qc18]; rfl) rfl (by rfl) Try.func31 (by kernel_rfl) (c := body31) (by kernel_rfl) (vs := #[.int .i64 (K : Int), .slice (some ⟨bc, 0, none⟩) K cap]) (n := 67) (by simp [Act.eval]) (by kernel_rfl) ?_
  unfold frame18 at hnext
  refine hnext _ w1 ?_ hS1
  exact t20_mk rfl
end
end Go.Proofs.Ytkpcmfgeanlcnaa

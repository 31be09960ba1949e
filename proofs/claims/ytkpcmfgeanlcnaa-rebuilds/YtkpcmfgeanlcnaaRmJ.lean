/-
  The statement calls rebuilt, rebuilt calls Rebuild, Rebuild the one within.
-/
import Derived.Test.YtkpcmfgeanlcnaaSvS
import Derived.Test.YtkpcmfgeanlcnaaRmI
namespace Go.Proofs.Ytkpcmfgeanlcnaa
open Go.RowKit Go.Deep Go.Lf Go.Conc

noncomputable def body5 : Code := Try.f5.body.getD .skip
noncomputable def c5 : Code := cSnd7 body5
noncomputable def q5 : {x : Array Oper // x = cOps7 (cFst7 c5)} := ⟨_, by simp only [c5, body5, cFst7, cSnd7, cOps7, Try.f5, Option.getD_some]; rfl⟩
noncomputable def r5 : Array Oper := q5.1
noncomputable def d5 : Code := cSnd7 c5
theorem c5_eq : c5 = .seq (.region 1 r5 false) d5 := by kernel_rfl
theorem n5 : r5.size = 9 := by kernel_rfl
theorem sf5 : ∃ fn, Try.prog.funcs[5]? = some fn := ⟨_, Try.func5⟩
noncomputable def frame5 (T : Array Value) : Frame := (base 5).at ⟨T, []⟩ (.inRegion r5 [3, 4, 5, 6, 7, 8] :: [.code d5])
noncomputable def body13 : Code := Try.f13.body.getD .skip
noncomputable def cr13 : Code := cSnd7 body13
noncomputable def qr13 : {x : Array Oper // x = cOps7 (cFst7 cr13)} := ⟨_, by simp only [cr13, body13, cFst7, cSnd7, cOps7, Try.f13, Option.getD_some]; rfl⟩
noncomputable def rr13 : Array Oper := qr13.1
noncomputable def dr13 : Code := cSnd7 cr13
theorem cr13_eq : cr13 = .seq (.region 1 rr13 false) dr13 := by kernel_rfl
theorem nr13 : rr13.size = 9 := by kernel_rfl
theorem sf13 : ∃ fn, Try.prog.funcs[13]? = some fn := ⟨_, Try.func13⟩
noncomputable def frame13 (T : Array Value) : Frame := (base 13).at ⟨T, []⟩ (.inRegion rr13 [3, 4, 5, 6, 7, 8] :: [.code dr13])

def T17 (T : Array Value) : Prop := ∃ f : Nat → Value, T = #[f 0, f 1, f 2, f 3, f 4, f 5, f 6, f 7, f 8, f 9, f 10, f 11, f 12, f 13, f 14, f 15, f 16]
theorem t17_mk {T : Array Value} (h : T = #[T.getD 0 undef, T.getD 1 undef, T.getD 2 undef, T.getD 3 undef, T.getD 4 undef, T.getD 5 undef, T.getD 6 undef, T.getD 7 undef, T.getD 8 undef, T.getD 9 undef, T.getD 10 undef, T.getD 11 undef, T.getD 12 undef, T.getD 13 undef, T.getD 14 undef, T.getD 15 undef, T.getD 16 undef]) : T17 T := ⟨fun i => T.getD i undef, h⟩
def T60 (K N : Nat) (vc : Value) (T : Array Value) : Prop := ∃ f : Nat → Value, T = #[.int .i64 (K : Int), .int .i64 (N : Int), vc, f 3, f 4, f 5, f 6, f 7, f 8, f 9, f 10, f 11, f 12, f 13, f 14, f 15, f 16, f 17, f 18, f 19, f 20, f 21, f 22, f 23, f 24, f 25, f 26, f 27, f 28, f 29, f 30, f 31, f 32, f 33, f 34, f 35, f 36, f 37, f 38, f 39, f 40, f 41, f 42, f 43, f 44, f 45, f 46, f 47, f 48, f 49, f 50, f 51, f 52, f 53, f 54, f 55, f 56, f 57, f 58, f 59]
theorem t60_mk {K N : Nat} {vc : Value} {T : Array Value} (h : T = #[.int .i64 (K : Int), .int .i64 (N : Int), vc, T.getD 3 undef, T.getD 4 undef, T.getD 5 undef, T.getD 6 undef, T.getD 7 undef, T.getD 8 undef, T.getD 9 undef, T.getD 10 undef, T.getD 11 undef, T.getD 12 undef, T.getD 13 undef, T.getD 14 undef, T.getD 15 undef, T.getD 16 undef, T.getD 17 undef, T.getD 18 undef, T.getD 19 undef, T.getD 20 undef, T.getD 21 undef, T.getD 22 undef, T.getD 23 undef, T.getD 24 undef, T.getD 25 undef, T.getD 26 undef, T.getD 27 undef, T.getD 28 undef, T.getD 29 undef, T.getD 30 undef, T.getD 31 undef, T.getD 32 undef, T.getD 33 undef, T.getD 34 undef, T.getD 35 undef, T.getD 36 undef, T.getD 37 undef, T.getD 38 undef, T.getD 39 undef, T.getD 40 undef, T.getD 41 undef, T.getD 42 undef, T.getD 43 undef, T.getD 44 undef, T.getD 45 undef, T.getD 46 undef, T.getD 47 undef, T.getD 48 undef, T.getD 49 undef, T.getD 50 undef, T.getD 51 undef, T.getD 52 undef, T.getD 53 undef, T.getD 54 undef, T.getD 55 undef, T.getD 56 undef, T.getD 57 undef, T.getD 58 undef, T.getD 59 undef]) : T60 K N vc T := ⟨fun i => T.getD i undef, h⟩

/-- Columns that fit. -/
structure FC (K N M bc oc : Nat) (q : CL) (bd od : Nat → Nat) (yv : Nat → Nat → Nat) (w : World) : Prop where
  num : 0 < K ∧ K ≤ N ∧ N ≤ 128 ∧ K ≤ M ∧ M ≤ 9223372036854775806
  qL : q.L ≤ 140737488355328
  co : CO w bc oc M q
  ix : ∀ i, i < M → q.ix i < N
  inj : ∀ i j, i < M → j < M → i ≠ j → q.ix i ≠ q.ix j
  dat : DO w K q bd od yv
theorem FC.keep {K N M bc oc : Nat} {q : CL} {bd od : Nat → Nat} {yv : Nat → Nat → Nat} {w w' : World} (h : FC K N M bc oc q bd od yv w) (hb : Below w.heap.size w w') : FC K N M bc oc q bd od yv w' :=
  ⟨h.num, h.qL, h.co.below hb (Nat.le_refl _), h.ix, h.inj, h.dat.below hb (Nat.le_refl _)⟩
theorem FC.gc {K N M bc oc : Nat} {q : CL} {bd od : Nat → Nat} {yv : Nat → Nat → Nat} {w : World} (h : FC K N M bc oc q bd od yv w) : GC w bc oc M (fun i => ((q.ix i : Nat) : Int)) q.db (fun _ => q.L) q.dc := ⟨h.co.lt, h.co.c0, h.co.c1⟩
theorem FC.fit {K N M bc oc : Nat} {q : CL} {bd od : Nat → Nat} {yv : Nat → Nat → Nat} {w : World} (h : FC K N M bc oc q bd od yv w) : K ≤ M ∧ FitTo N (fun i => ((q.ix i : Nat) : Int)) (fun _ => q.L) M := by
  refine ⟨h.num.2.2.2.1, fun i hi => ⟨Int.natCast_nonneg _, Int.ofNat_lt.2 (h.ix i hi), rfl, fun j hj e => ?_⟩⟩
  have e' : ((q.ix j : Nat) : Int) = ((q.ix i : Nat) : Int) := e
  have := h.inj j i (by omega) hi (by omega)
  omega

section
variable {Y : Nat → Option Obj} {Φ : Goroutine → World → Prop} {w : World} {K N M bc oc cap : Nat} {q : CL} {bd od : Nat → Nat} {yv : Nat → Nat → Nat}
set_option maxHeartbeats 4000000 in
set_option maxRecDepth 100000 in
theorem to_inner {cs : List Frame} (hS : FC K N M bc oc q bd od yv w)
    (hnext : ∀ T18 w', T20 T18 → Below w.heap.size w w' → Rea Try.prog Y Φ 31 (frame18 T18 :: cs) [.code body31] ⟨#[.int .i64 (K : Int), .slice (some ⟨bc, oc, none⟩) M cap] ++ Array.replicate 67 undef, []⟩ w') :
    Rea Try.prog Y Φ 18 cs [.code body18] ⟨#[.int .i64 (K : Int), .int .i64 (N : Int), .slice (some ⟨bc, oc, none⟩) M cap] ++ Array.replicate 17 undef, []⟩ w := by
  have hn := hS.num
  have c1 := partsFit_any (K : Int) (N : Int)
  rw [fitB_yes (by omega) (by omega) (by omega)] at c1
  have c2 := columnsFit_all K N M cap bc oc (some ⟨bc, oc, none⟩) _ q.db _ q.dc w (by omega) (by omega) (by omega) (fun _ => ⟨rfl, hS.gc⟩)
  replace c2 := c2.mono (R' := fun e w' => e = .returned (.bool true) ∧ Below w.heap.size w w') (by
    rintro e w1 ⟨r, rfl, hr, hb1⟩
    rw [hr.2 hS.fit]
    exact ⟨rfl, hb1⟩)
  unfold body18
  simp only [Try.f18, Option.getD_some, Array.replicate_succ, Array.replicate_zero, List.push_toArray, List.append_toArray, List.nil_append, List.cons_append]
  refine reach_go goodF (by kernel_rfl) rfl sf18 fun R hR => ?_
  go_wp2
  refine reach_go goodF (by kernel_rfl) rfl sf18 fun R hR => ?_
  go_wp2_with (first | (go_at_call 28; (with_reducible refine (c1 _).mono ?_); rintro e w' ⟨rfl, hw'⟩; obtain rfl := hw'.symm))
  refine reach_go goodF (by kernel_rfl) rfl sf18 fun R hR => ?_
  go_wp2_with (first | (go_at_call 30; (with_reducible refine c2.mono ?_); rintro e w1 ⟨rfl, hb1⟩))
  change Rea _ _ _ _ _ [Item.code (Code.seq (Code.region 5 rc18 false) Code.ret)] _ _
  refine reach_split rfl (rea_region ?_)
  rw [nc18]
  simp only [List.range, List.range.loop]
  refine rea_op goodF (u := .int .i64 (K : Int)) (v' := w1) (by simp only [rc18, qc18]; rfl) rfl (by kernel_rfl) (by go_simp) ?_
  walk_nrm
  refine rea_op goodF (u := .slice (some ⟨bc, oc, none⟩) M cap) (v' := w1) (by simp only [rc18, qc18]; rfl) rfl (by kernel_rfl) (by go_simp) ?_
  walk_nrm
  refine rea_call (by simp only [rc18, qc18]; rfl) rfl (by rfl) Try.func31 (by kernel_rfl) (c := body31) (by kernel_rfl) (vs := #[.int .i64 (K : Int), .slice (some ⟨bc, oc, none⟩) M cap]) (n := 67) (by simp [Act.eval]) (by kernel_rfl) ?_
  unfold frame18 at hnext
  refine hnext _ w1 ?_ hb1
  exact t20_mk rfl

set_option maxHeartbeats 4000000 in
set_option maxRecDepth 100000 in
theorem to_13 {cs : List Frame} {vc : Value}
    (hnext : ∀ T13, T60 K N vc T13 → Rea Try.prog Y Φ 18 (frame13 T13 :: cs) [.code body18] ⟨#[.int .i64 (K : Int), .int .i64 (N : Int), vc] ++ Array.replicate 17 undef, []⟩ w) :
    Rea Try.prog Y Φ 13 cs [.code body13] ⟨#[.int .i64 (K : Int), .int .i64 (N : Int), vc] ++ Array.replicate 57 undef, []⟩ w := by
  have e : body13 = .seq (cFst7 body13) cr13 := by kernel_rfl
  rw [e]
  simp only [Array.replicate_succ, Array.replicate_zero, List.push_toArray, List.append_toArray, List.nil_append, List.cons_append]
  refine reach_go goodF (by kernel_rfl) rfl sf13 fun R hR => ?_
  unfold body13 cFst7
  simp only [Try.f13, Option.getD_some]
  go_wp2
  rw [cr13_eq]
  refine reach_split rfl (rea_region ?_)
  rw [nr13]
  simp only [List.range, List.range.loop]
  refine rea_op goodF (u := .int .i64 (K : Int)) (v' := w) (by simp only [rr13, qr13]; rfl) rfl (by kernel_rfl) (by go_simp) ?_
  walk_nrm
  refine rea_op goodF (u := .int .i64 (N : Int)) (v' := w) (by simp only [rr13, qr13]; rfl) rfl (by kernel_rfl) (by go_simp) ?_
  walk_nrm
  refine rea_op goodF (u := vc) (v' := w) (by simp only [rr13, qr13]; rfl) rfl (by kernel_rfl) (by go_simp) ?_
  walk_nrm
  refine rea_call (by simp only [rr13, qr13]; rfl) rfl (by rfl) Try.func18 (by kernel_rfl) (c := body18) (by kernel_rfl) (vs := #[.int .i64 (K : Int), .int .i64 (N : Int), vc]) (n := 17) (by simp [Act.eval]) (by kernel_rfl) ?_
  unfold frame13 at hnext
  refine hnext _ ?_
  exact t60_mk rfl

set_option maxHeartbeats 4000000 in
set_option maxRecDepth 100000 in
theorem to_5 {cs : List Frame} {vc : Value}
    (hnext : ∀ T5, T17 T5 → Rea Try.prog Y Φ 13 (frame5 T5 :: cs) [.code body13] ⟨#[.int .i64 (K : Int), .int .i64 (N : Int), vc] ++ Array.replicate 57 undef, []⟩ w) :
    Rea Try.prog Y Φ 5 cs [.code body5] ⟨#[.int .i64 (K : Int), .int .i64 (N : Int), vc] ++ Array.replicate 14 undef, []⟩ w := by
  have e : body5 = .seq (cFst7 body5) c5 := by kernel_rfl
  rw [e]
  simp only [Array.replicate_succ, Array.replicate_zero, List.push_toArray, List.append_toArray, List.nil_append, List.cons_append]
  refine reach_go goodF (by kernel_rfl) rfl sf5 fun R hR => ?_
  unfold body5 cFst7
  simp only [Try.f5, Option.getD_some]
  go_wp2
  rw [c5_eq]
  refine reach_split rfl (rea_region ?_)
  rw [n5]
  simp only [List.range, List.range.loop]
  refine rea_op goodF (u := .int .i64 (K : Int)) (v' := w) (by simp only [r5, q5]; rfl) rfl (by kernel_rfl) (by go_simp) ?_
  walk_nrm
  refine rea_op goodF (u := .int .i64 (N : Int)) (v' := w) (by simp only [r5, q5]; rfl) rfl (by kernel_rfl) (by go_simp) ?_
  walk_nrm
  refine rea_op goodF (u := vc) (v' := w) (by simp only [r5, q5]; rfl) rfl (by kernel_rfl) (by go_simp) ?_
  walk_nrm
  refine rea_call (by simp only [r5, q5]; rfl) rfl (by rfl) Try.func13 (by kernel_rfl) (c := body13) (by kernel_rfl) (vs := #[.int .i64 (K : Int), .int .i64 (N : Int), vc]) (n := 57) (by simp [Act.eval]) (by kernel_rfl) ?_
  unfold frame5 at hnext
  refine hnext _ ?_
  exact t17_mk rfl
end
end Go.Proofs.Ytkpcmfgeanlcnaa

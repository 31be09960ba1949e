/-
  In company: the starter: what is there is copied into its place; for what is missing a worker is started.
-/
import Derived.Test.YtkpcmfgeanlcnaaCoR
import Derived.KernelRfl
namespace Go.Proofs.Ytkpcmfgeanlcnaa
open Go.Conc Go.ConcN Go.RowKit Go.Gh Go.Conc.Lib Go.ConcR.Gen Go.ConcN.Gen
open Go.ConcR (Payload)


/-- The temporaries at the loop's head. -/
def TS (E : Env) (Wg k j : Nat) (T : Array Value) : Prop :=
  ∃ v0 v1 v2 v3 v4 v5 v6 v8 v9 v13 v14 v15 v16 v17 v18 v19 v20 v21 v22 v23 v24 v25 v26 v27 v28 v29 v30 v31 v32 v33 v34 v35 v36 v37 v38 v39 v40 v41 v42 v43 v44 v45 v46 v50 v51 v52 v53 v54 v55 v56 v57 v58 v59 v60 v61 v62 v63 v64 v65 v66 v67 v68 : Value, T = #[v0, v1, v2, v3, v4, v5, v6, .pointer (some ⟨E.bd, 0, none⟩), v8, v9, .pointer (some ⟨E.bv, 0, none⟩), .pointer (some ⟨E.ba, 0, none⟩), .pointer (some ⟨Wg, 0, none⟩), v13, v14, v15, v16, v17, v18, v19, v20, v21, v22, v23, v24, v25, v26, v27, v28, v29, v30, v31, v32, v33, v34, v35, v36, v37, v38, v39, v40, v41, v42, v43, v44, v45, v46, .slice (some ⟨E.bp, E.op, none⟩) k E.cp, .int .i64 ((k : Nat) : Int), .int .i64 ((j : Nat) : Int), v50, v51, v52, v53, v54, v55, v56, v57, v58, v59, v60, v61, v62, v63, v64, v65, v66, v67, v68]

/-- .. behind the test of a round. -/
def TS2 (E : Env) (Wg k j bj bc : Nat) (T : Array Value) : Prop :=
  ∃ v0 v1 v2 v3 v4 v5 v6 v8 v9 v15 v16 v17 v18 v19 v20 v21 v22 v23 v24 v25 v26 v27 v28 v29 v30 v31 v32 v33 v34 v35 v36 v37 v38 v39 v40 v41 v42 v43 v44 v45 v46 v50 v51 v52 v53 v54 v55 v56 v58 v59 v60 v61 v62 v63 v64 v65 v66 v67 v68 : Value, T = #[v0, v1, v2, v3, v4, v5, v6, .pointer (some ⟨E.bd, 0, none⟩), v8, v9, .pointer (some ⟨E.bv, 0, none⟩), .pointer (some ⟨E.ba, 0, none⟩), .pointer (some ⟨Wg, 0, none⟩), .pointer (some ⟨bj, 0, none⟩), .pointer (some ⟨bc, 0, none⟩), v15, v16, v17, v18, v19, v20, v21, v22, v23, v24, v25, v26, v27, v28, v29, v30, v31, v32, v33, v34, v35, v36, v37, v38, v39, v40, v41, v42, v43, v44, v45, v46, .slice (some ⟨E.bp, E.op, none⟩) k E.cp, .int .i64 ((k : Nat) : Int), .int .i64 ((j : Nat) : Int), v50, v51, v52, v53, v54, v55, v56, .bool (decide (((E.px j : Nat) : Int) = ((j : Nat) : Int))), v58, v59, v60, v61, v62, v63, v64, v65, v66, v67, v68]

def cFst : Code → Code | .seq x _ => x | c => c
def cSnd : Code → Code | .seq _ y => y | c => c
def cIn : Code → Code | .block _ c => c | .loop c => c | c => c
def cOps : Code → Array Oper | .region _ o _ => o | _ => #[]
def cThen : Code → Code | .cond _ x _ => x | c => c
noncomputable def rTail : Code := cSnd (cSnd (cSnd (cSnd (cSnd (cSnd (cSnd (cSnd (Try.f31.body.getD .skip))))))))
noncomputable def rLoop : Code := cIn (cIn (cSnd (cFst rTail)))
noncomputable def rBlk : Code := cIn (cFst (cSnd (cSnd rLoop)))
noncomputable def q13 : {x : Array Oper // x = cOps (cFst (cFst rTail))} := ⟨_, by (simp only [rTail, cFst, cSnd, cOps, Try.f31, Option.getD_some]; rfl)⟩
noncomputable def o13 : Array Oper := q13.1
noncomputable def q14 : {x : Array Oper // x = cOps (cFst rLoop)} := ⟨_, by (simp only [rLoop, rTail, cFst, cSnd, cIn, cOps, Try.f31, Option.getD_some]; rfl)⟩
noncomputable def o14 : Array Oper := q14.1
noncomputable def q15 : {x : Array Oper // x = cOps (cFst rBlk)} := ⟨_, by (simp only [rBlk, rLoop, rTail, cFst, cSnd, cIn, cOps, Try.f31, Option.getD_some]; rfl)⟩
noncomputable def o15 : Array Oper := q15.1
noncomputable def q16 : {x : Array Oper // x = cOps (cFst (cFst (cSnd rBlk)))} := ⟨_, by (simp only [rBlk, rLoop, rTail, cFst, cSnd, cIn, cOps, Try.f31, Option.getD_some]; rfl)⟩
noncomputable def o16 : Array Oper := q16.1
noncomputable def q17 : {x : Array Oper // x = cOps (cFst (cThen (cSnd (cFst (cSnd rBlk)))))} := ⟨_, by (simp only [rBlk, rLoop, rTail, cFst, cSnd, cIn, cOps, cThen, Try.f31, Option.getD_some]; rfl)⟩
noncomputable def o17 : Array Oper := q17.1
noncomputable def q18 : {x : Array Oper // x = cOps (cFst (cSnd (cSnd rBlk)))} := ⟨_, by (simp only [rBlk, rLoop, rTail, cFst, cSnd, cIn, cOps, Try.f31, Option.getD_some]; rfl)⟩
noncomputable def o18 : Array Oper := q18.1
noncomputable def q19 : {x : Array Oper // x = cOps (cSnd (cSnd (cSnd rBlk)))} := ⟨_, by (simp only [rBlk, rLoop, rTail, cFst, cSnd, cIn, cOps, Try.f31, Option.getD_some]; rfl)⟩
noncomputable def o19 : Array Oper := q19.1
noncomputable def q20 : {x : Array Oper // x = cOps (cSnd (cSnd (cSnd rLoop)))} := ⟨_, by (simp only [rLoop, rTail, cFst, cSnd, cIn, cOps, Try.f31, Option.getD_some]; rfl)⟩
noncomputable def o20 : Array Oper := q20.1
noncomputable def q21 : {x : Array Oper // x = cOps (cFst (cSnd rTail))} := ⟨_, by (simp only [rTail, cFst, cSnd, cOps, Try.f31, Option.getD_some]; rfl)⟩
noncomputable def o21 : Array Oper := q21.1
noncomputable def q22 : {x : Array Oper // x = cOps (cFst (cSnd (cSnd rTail)))} := ⟨_, by (simp only [rTail, cFst, cSnd, cOps, Try.f31, Option.getD_some]; rfl)⟩
noncomputable def o22 : Array Oper := q22.1
noncomputable def rEnd2 : Code := .seq (.region 22 o22 false) .ret
noncomputable def rEnd : Code := .seq (.region 21 o21 false) rEnd2
noncomputable def rC57 : Code := .cond (.tmp 57) (.seq (.region 17 o17 true) (.exit 3)) .skip
noncomputable def rGo : Code := .seq (.region 18 o18 false) (.region 19 o19 false)
theorem rTail_eq : rTail = .seq (.seq (.region 13 o13 false) (.block 2 (.loop rLoop))) rEnd := by kernel_rfl
theorem rLoop_eq : rLoop = .seq (.region 14 o14 false) (.seq (.cond (.tmp 50) .skip (.exit 2)) (.seq (.block 3 rBlk) (.region 20 o20 false))) := by kernel_rfl
theorem rBlk_eq : rBlk = .seq (.region 15 o15 false) (.seq (.seq (.region 16 o16 false) rC57) rGo) := by kernel_rfl
theorem n14 : o14.size = 1 := by kernel_rfl
theorem n15 : o15.size = 7 := by kernel_rfl
theorem n16 : o16.size = 4 := by kernel_rfl
theorem n18 : o18.size = 1 := by kernel_rfl
theorem n19 : o19.size = 2 := by kernel_rfl
theorem n20 : o20.size = 2 := by kernel_rfl
theorem n21 : o21.size = 1 := by kernel_rfl
theorem n22 : o22.size = 2 := by kernel_rfl


section
variable [Payload] {main : Bool} {Wg C k B L : Nat} {E : Env}

/-- Behind the join. -/
def KR (Wg C k B L : Nat) (E : Env) (cs : List Frame) (ids : List Nat) (g : Goroutine) (w : World) : Prop :=
  ∃ T s0 j ops, g = G ((base 31).at ⟨T, []⟩ (.inRegion ops [] :: [.code rEnd2])) cs ∧ TS E Wg k j T ∧ SF Wg C k B L E s0 k w ∧ ∀ x, x ∈ ids ↔ E.mis k x
theorem KR.rely {cs : List Frame} {ids : List Nat} {g : Goroutine} {w w₁ : World} (h : KR Wg C k B L E cs ids g w) (r : Ro Wg C k B (fun i => ¬ E.mis k i) w w₁) : KR Wg C k B L E cs ids g w₁ := by
  obtain ⟨T, s0, j, ops, h1, h2, h3, h4⟩ := h
  exact ⟨T, s0, j, ops, h1, h2, h3.rely r, h4⟩

/-- What is stopped at: the next Add, or Wait. -/
def StS (Wg C k B L : Nat) (E : Env) (cs : List Frame) : Nat → List Nat → Goroutine → World → Prop
  | 0, ids => AtWt Try.prog link.tWg Wg (KR Wg C k B L E cs) ids
  | r + 1, ids => AtAdd Try.prog link.tWg Wg C k B (E.mis k) (WPr C L (E.res L)) (Sp Try.prog link.tWg Wg C k B (E.mis k) (WPr C L (E.res L)) (KR Wg C k B L E cs) r) ids
theorem sp_iff {cs : List Frame} (r : Nat) (ids : List Nat) (g : Goroutine) (w : World) : Sp Try.prog link.tWg Wg C k B (E.mis k) (WPr C L (E.res L)) (KR Wg C k B L E cs) r ids g w ↔ ∃ m, Goes Try.prog true (Ro Wg C k B (fun i => ¬ E.mis k i)) (Dg Wg C k B (fun i => ¬ E.mis k i)) (StS Wg C k B L E cs r ids) m g w := by cases r <;> exact Iff.rfl

set_option maxRecDepth 100000 in
set_option maxHeartbeats 4000000 in
/-- The loop is over: Wait. -/
theorem s_last {cs : List Frame} : ∃ m, ∀ (T : Array Value) (w : World) (ids : List Nat) (s0 : Nat), TS E Wg k k T → SF Wg C k B L E s0 k w → (∀ x, x ∈ ids ↔ E.mis k x) →
    Goes Try.prog true (Ro Wg C k B (fun i => ¬ E.mis k i)) (Dg Wg C k B (fun i => ¬ E.mis k i)) (StS Wg C k B L E cs 0 ids) m (G ((base 31).at ⟨T, []⟩ (.code rLoop :: .inLoop rLoop :: .inBlock 2 :: [.code rEnd])) cs) w := by
  co_apply Exists.intro
  rintro T w ids s0 ⟨v0, v1, v2, v3, v4, v5, v6, v8, v9, v13, v14, v15, v16, v17, v18, v19, v20, v21, v22, v23, v24, v25, v26, v27, v28, v29, v30, v31, v32, v33, v34, v35, v36, v37, v38, v39, v40, v41, v42, v43, v44, v45, v46, v50, v51, v52, v53, v54, v55, v56, v57, v58, v59, v60, v61, v62, v63, v64, v65, v66, v67, v68, rfl⟩ hF hids
  have hnl : ¬ ((k : Int) < (k : Int)) := by omega
  generalize hkk : Item.inLoop rLoop :: [Item.inBlock 2, Item.code rEnd] = kk
  rw [rLoop_eq]
  (co_apply Goes.step rfl; intro _ hRq; replace hF := SF.rely hF hRq; clear hRq; rw [stepG_seq]; simp only [goes_go]; refine ⟨Terms.idle termsG _, ?_⟩)
  (co_apply Goes.step rfl; intro _ hRq; replace hF := SF.rely hF hRq; clear hRq; rw [stepG_region, n14]; simp only [goes_go, List.range, List.range.loop]; refine ⟨Terms.idle termsG _, ?_⟩; simp only [o14, q14])
  (co_apply Goes.step rfl; intro _ hRq; replace hF := SF.rely hF hRq; clear hRq
   refine goes_oper_k rfl rfl (by decide) (fun Kq hKq => ?_)
   (skip)
   go_simp
   try (unfold stored; go_simp)
   refine hKq _ _ ⟨?_, ?_⟩
   · (co_quiet termsG)
   clear hKq Kq
   try walk_nrm)
  (co_apply Goes.step rfl; intro _ hRq; replace hF := SF.rely hF hRq; clear hRq; rw [stepG_region_end]; simp only [goes_go]; refine ⟨Terms.idle termsG _, ?_⟩)
  (co_apply Goes.step rfl; intro _ hRq; replace hF := SF.rely hF hRq; clear hRq; rw [stepG_seq]; simp only [goes_go]; refine ⟨Terms.idle termsG _, ?_⟩)
  (co_apply Goes.step rfl; intro _ hRq; replace hF := SF.rely hF hRq; clear hRq)
  rw [stepG_cond (t := false) rfl]
  simp only [goes_go, Bool.false_eq_true, if_false]
  refine ⟨Terms.idle termsG _, ?_⟩
  (co_apply Goes.step rfl; intro _ hRq; replace hF := SF.rely hF hRq; clear hRq)
  subst hkk
  refine goes_exit rfl ?_
  refine ⟨Terms.idle termsG _, ?_⟩
  unfold rEnd
  (co_apply Goes.step rfl; intro _ hRq; replace hF := SF.rely hF hRq; clear hRq; rw [stepG_seq]; simp only [goes_go]; refine ⟨Terms.idle termsG _, ?_⟩)
  (co_apply Goes.step rfl; intro _ hRq; replace hF := SF.rely hF hRq; clear hRq; rw [stepG_region, n21]; simp only [goes_go, List.range, List.range.loop]; refine ⟨Terms.idle termsG _, ?_⟩; simp only [o21, q21])
  (co_apply Goes.step rfl; intro _ hRq; replace hF := SF.rely hF hRq; clear hRq)
  refine goes_call rfl rfl (by decide) rfl wgLib.f_wait (nm_wait link) rfl ⟨Terms.idle termsG _, ?_⟩
  walk_nrmf waitFn
  refine Goes.stop (n := 0) fun w₁ hR => ?_
  replace hF := hF.rely hR
  clear hR
  refine ⟨rfl, _, waitW wgLib, _, s0, k, _, rfl, ?_, hF, hids⟩
  walk_nrm
  exact ⟨_, _, _, _, _, _, _, _, _, _, _, _, _, _, _, _, _, _, _, _, _, _, _, _, _, _, _, _, _, _, _, _, _, _, _, _, _, _, _, _, _, _, _, _, _, _, _, _, _, _, _, _, _, _, _, _, _, _, _, _, _, _, rfl⟩

set_option maxRecDepth 100000 in
set_option maxHeartbeats 4000000 in
/-- A round, as far as its test. -/
theorem s_open (hE : EnvOk E k L) {cs : List Frame} {j : Nat} (hj : j < k) {c : Col} (hcj : E.cs[j]? = some c) (m : Nat) : ∃ n, ∀ (T : Array Value) (w : World) (s0 : Nat) (Stop : Goroutine → World → Prop), TS E Wg k j T → SF Wg C k B L E s0 j w →
    (∀ T' w' s1 bj bc, TS2 E Wg k j bj bc T' → SG Wg C k B L E s1 j bj bc (.int .i64 ((j : Nat) : Int)) (.int .i64 ((E.px j : Nat) : Int)) (.slice c.bs L c.co) w' →
      Goes Try.prog true (Ro Wg C k B (fun i => ¬ E.mis k i)) (Dg Wg C k B (fun i => ¬ E.mis k i)) Stop m (G ((base 31).at ⟨T', []⟩ (.code rC57 :: .code rGo :: .inBlock 3 :: .code (.region 20 o20 false) :: .inLoop rLoop :: .inBlock 2 :: [.code rEnd])) cs) w') →
    Goes Try.prog true (Ro Wg C k B (fun i => ¬ E.mis k i)) (Dg Wg C k B (fun i => ¬ E.mis k i)) Stop n (G ((base 31).at ⟨T, []⟩ (.code rLoop :: .inLoop rLoop :: .inBlock 2 :: [.code rEnd])) cs) w := by
  co_apply Exists.intro
  rintro T w s0 Stop ⟨v0, v1, v2, v3, v4, v5, v6, v8, v9, v13, v14, v15, v16, v17, v18, v19, v20, v21, v22, v23, v24, v25, v26, v27, v28, v29, v30, v31, v32, v33, v34, v35, v36, v37, v38, v39, v40, v41, v42, v43, v44, v45, v46, v50, v51, v52, v53, v54, v55, v56, v57, v58, v59, v60, v61, v62, v63, v64, v65, v66, v67, v68, rfl⟩ hF hcont
  replace hF := hF.base
  generalize hs1 : w.heap.size = s1 at hF
  clear hs1 s0
  have hjI : (j : Int) < (k : Int) := by omega
  have hk1 := hE.k1
  have hpx := hE.pb j hj
  generalize Item.inLoop rLoop :: [Item.inBlock 2, Item.code rEnd] = kk at hcont ⊢
  rw [rLoop_eq]
  (co_apply Goes.step rfl; intro _ hRq; replace hF := SF.rely hF hRq; clear hRq; rw [stepG_seq]; simp only [goes_go]; refine ⟨Terms.idle termsG _, ?_⟩)
  (co_apply Goes.step rfl; intro _ hRq; replace hF := SF.rely hF hRq; clear hRq; rw [stepG_region, n14]; simp only [goes_go, List.range, List.range.loop]; refine ⟨Terms.idle termsG _, ?_⟩; simp only [o14, q14])
  (co_apply Goes.step rfl; intro _ hRq; replace hF := SF.rely hF hRq; clear hRq
   refine goes_oper_k rfl rfl (by decide) (fun Kq hKq => ?_)
   (skip)
   go_simp
   try (unfold stored; go_simp)
   refine hKq _ _ ⟨?_, ?_⟩
   · (co_quiet termsG)
   clear hKq Kq
   try walk_nrm)
  (co_apply Goes.step rfl; intro _ hRq; replace hF := SF.rely hF hRq; clear hRq; rw [stepG_region_end]; simp only [goes_go]; refine ⟨Terms.idle termsG _, ?_⟩)
  (co_apply Goes.step rfl; intro _ hRq; replace hF := SF.rely hF hRq; clear hRq; rw [stepG_seq]; simp only [goes_go]; refine ⟨Terms.idle termsG _, ?_⟩)
  (co_apply Goes.step rfl; intro _ hRq; replace hF := SF.rely hF hRq; clear hRq)
  rw [stepG_cond (t := true) rfl]
  simp only [goes_go, if_true]
  refine ⟨Terms.idle termsG _, ?_⟩
  (co_apply Goes.step rfl; intro _ hRq; replace hF := SF.rely hF hRq; clear hRq; rw [stepG_skip]; simp only [goes_go]; refine ⟨Terms.idle termsG _, ?_⟩)
  (co_apply Goes.step rfl; intro _ hRq; replace hF := SF.rely hF hRq; clear hRq; rw [stepG_seq]; simp only [goes_go]; refine ⟨Terms.idle termsG _, ?_⟩)
  (co_apply Goes.step rfl; intro _ hRq; replace hF := SF.rely hF hRq; clear hRq; rw [stepG_block]; simp only [goes_go]; refine ⟨Terms.idle termsG _, ?_⟩)
  rw [rBlk_eq]
  (co_apply Goes.step rfl; intro _ hRq; replace hF := SF.rely hF hRq; clear hRq; rw [stepG_seq]; simp only [goes_go]; refine ⟨Terms.idle termsG _, ?_⟩)
  (co_apply Goes.step rfl; intro _ hRq; replace hF := SF.rely hF hRq; clear hRq; rw [stepG_region, n15]; simp only [goes_go, List.range, List.range.loop]; refine ⟨Terms.idle termsG _, ?_⟩; simp only [o15, q15])
  (co_apply Goes.step rfl; intro _ hRq; replace hF := SF.rely hF hRq; clear hRq
   refine goes_oper_k rfl rfl (by decide) (fun Kq hKq => ?_)
   (skip)
   go_simp
   try (unfold stored; go_simp)
   refine hKq _ _ ⟨?_, ?_⟩
   · (co_quiet termsG)
   clear hKq Kq
   try walk_nrm)
  (co_apply Goes.step rfl; intro _ hRq; replace hF := SF.rely hF hRq; clear hRq
   refine goes_oper_k rfl rfl (by decide) (fun Kq hKq => ?_)
   (skip)
   go_simp
   try (unfold stored; go_simp)
   refine hKq _ _ ⟨?_, ?_⟩
   · (co_still termsG)
   clear hKq Kq
   try walk_nrm)
  (co_apply Goes.step rfl; intro _ hRq; replace hF := SF.rely hF hRq; clear hRq)
  refine goes_oper_k rfl rfl (by decide) (fun K hK => ?_)
  have h0 := hF.low.hp0 j hj
  have h1 := hF.low.hp1 j c hcj
  go_simp
  refine hK _ _ ⟨?_, ?_⟩
  · refine dg_read (b := E.bp) (.inr hF.low.lp) (by have := hF.low.lp.1; have := hF.bs.hB; omega) ?_
    intro e he
    have hm := mem_listed he
    simp [go_sem, *] at hm
    rcases hm with rfl | rfl <;> exact ⟨_, rfl, rfl⟩
  clear hK K h0 h1
  try walk_nrm
  (co_apply Goes.step rfl; intro _ hRq; replace hF := SF.rely hF hRq; clear hRq
   refine goes_oper_k rfl rfl (by decide) (fun Kq hKq => ?_)
   (skip)
   go_simp
   try (unfold stored; go_simp)
   refine hKq _ _ ⟨?_, ?_⟩
   · (rw [listed_nil (by simp [go_sem, *])]; exact dg_alloc hF.bs.hC _ rfl)
   clear hKq Kq
   try walk_nrm)
  replace hF := hF.alloc1 (.int .i64 0)
  generalize hN : Array.size (World.heap _) = bj at hF ⊢
  clear hN
  (co_apply Goes.step rfl; intro _ hRq; replace hF := SJ.rely hF hRq; clear hRq
   refine goes_oper_k rfl rfl (by decide) (fun Kq hKq => ?_)
   (skip)
   go_simp
   try (unfold stored; go_simp)
   refine hKq _ _ ⟨?_, ?_⟩
   · (rw [listed_nil (by simp [go_sem, *])]; exact dg_alloc hF.sf.bs.hC _ rfl)
   clear hKq Kq
   try walk_nrm)
  replace hF := hF.alloc2 (.int .i64 0) (.slice none 0 0)
  generalize hN : Array.size (World.heap _) = bc at hF ⊢
  clear hN
  (co_apply Goes.step rfl; intro _ hRq; replace hF := SG.rely hF hRq; clear hRq
   refine goes_oper_k rfl rfl (by decide) (fun Kq hKq => ?_)
   (have h0 := hF.cj.1; have h1 := hF.cj.2)
   go_simp
   try (unfold stored; go_simp)
   refine hKq _ _ ⟨?_, ?_⟩
   · (refine dg_set hF.mj hF.jC (hF.sf.bs.lt hF.mj) ?_; co_evs (exact ⟨_, _, rfl, rfl⟩))
   clear hKq Kq
   try walk_nrm)
  clear h0 h1
  replace hF := hF.setj (.int .i64 ((j : Nat) : Int))
  (co_apply Goes.step rfl; intro _ hRq; replace hF := SG.rely hF hRq; clear hRq)
  refine goes_oper_k rfl rfl (by decide) (fun K hK => ?_)
  have h0 := hF.cc.1.1
  have h1 := hF.cc.1.2
  have h2 := hF.cc.2.1
  have h3 := hF.cc.2.2
  go_simp
  refine hK _ _ ⟨?_, ?_⟩
  · refine dg_set2 hF.mc hF.cC (hF.sf.bs.lt hF.mc) ?_
    intro e he
    have hm := mem_listed he
    simp [go_sem, *] at hm
    rcases hm with rfl | rfl <;> exact ⟨_, _, rfl, rfl⟩
  clear hK K h0 h1 h2 h3
  try walk_nrm
  replace hF := hF.setc (.int .i64 ((E.px j : Nat) : Int)) (.slice c.bs L c.co)
  (co_apply Goes.step rfl; intro _ hRq; replace hF := SG.rely hF hRq; clear hRq; rw [stepG_region_end]; simp only [goes_go]; refine ⟨Terms.idle termsG _, ?_⟩)
  (co_apply Goes.step rfl; intro _ hRq; replace hF := SG.rely hF hRq; clear hRq; rw [stepG_seq]; simp only [goes_go]; refine ⟨Terms.idle termsG _, ?_⟩)
  (co_apply Goes.step rfl; intro _ hRq; replace hF := SG.rely hF hRq; clear hRq; rw [stepG_seq]; simp only [goes_go]; refine ⟨Terms.idle termsG _, ?_⟩)
  (co_apply Goes.step rfl; intro _ hRq; replace hF := SG.rely hF hRq; clear hRq; rw [stepG_region, n16]; simp only [goes_go, List.range, List.range.loop]; refine ⟨Terms.idle termsG _, ?_⟩; simp only [o16, q16])
  (co_apply Goes.step rfl; intro _ hRq; replace hF := SG.rely hF hRq; clear hRq
   refine goes_oper_k rfl rfl (by decide) (fun Kq hKq => ?_)
   (skip)
   go_simp
   try (unfold stored; go_simp)
   refine hKq _ _ ⟨?_, ?_⟩
   · (co_still termsG)
   clear hKq Kq
   try walk_nrm)
  (co_apply Goes.step rfl; intro _ hRq; replace hF := SG.rely hF hRq; clear hRq
   refine goes_oper_k rfl rfl (by decide) (fun Kq hKq => ?_)
   (have h0 := hF.cc.1.1)
   go_simp
   try (unfold stored; go_simp)
   refine hKq _ _ ⟨?_, ?_⟩
   · (refine dg_read (.inl hF.mc) (hF.sf.bs.lt hF.mc) ?_; co_evs (exact ⟨_, rfl, rfl⟩))
   clear hKq Kq
   try walk_nrm)
  clear h0
  (co_apply Goes.step rfl; intro _ hRq; replace hF := SG.rely hF hRq; clear hRq
   refine goes_oper_k rfl rfl (by decide) (fun Kq hKq => ?_)
   (have h0 := hF.cj.1)
   go_simp
   try (unfold stored; go_simp)
   refine hKq _ _ ⟨?_, ?_⟩
   · (refine dg_read (.inl hF.mj) (hF.sf.bs.lt hF.mj) ?_; co_evs (exact ⟨_, rfl, rfl⟩))
   clear hKq Kq
   try walk_nrm)
  clear h0
  (co_apply Goes.step rfl; intro _ hRq; replace hF := SG.rely hF hRq; clear hRq
   refine goes_oper_k rfl rfl (by decide) (fun Kq hKq => ?_)
   (skip)
   go_simp
   try (unfold stored; go_simp)
   refine hKq _ _ ⟨?_, ?_⟩
   · (co_quiet termsG)
   clear hKq Kq
   try walk_nrm)
  (co_apply Goes.step rfl; intro _ hRq; replace hF := SG.rely hF hRq; clear hRq; rw [stepG_region_end]; simp only [goes_go]; refine ⟨Terms.idle termsG _, ?_⟩)
  exact hcont _ _ _ _ _ ⟨_, _, _, _, _, _, _, _, _, _, _, _, _, _, _, _, _, _, _, _, _, _, _, _, _, _, _, _, _, _, _, _, _, _, _, _, _, _, _, _, _, _, _, _, _, _, _, _, _, _, _, _, _, _, _, _, _, _, _, rfl⟩ hF
end
end Go.Proofs.Ytkpcmfgeanlcnaa


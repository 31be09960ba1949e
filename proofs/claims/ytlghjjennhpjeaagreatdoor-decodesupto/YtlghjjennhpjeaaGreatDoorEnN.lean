/-
  In company: the starter of coding.Columns: for every place a worker is started.
-/
import Derived.Test.YtlghjjennhpjeaaGreatDoorCoK
import Derived.KernelRfl
import Derived.Test.YtlghjjennhpjeaaGreatDoorMul
import Derived.Test.YtlghjjennhpjeaaGreatDoorLfM
import Derived.Test.YtlghjjennhpjeaaGreatDoorCoV
import Derived.Test.YtlghjjennhpjeaaGreatDoorWrM
import Derived.RangeFuncBox
import Derived.RangeFuncLeaves
import Derived.RangeFuncCalls
import Derived.Shelf.Abstract
import Derived.WalkKit
import Derived.OwnWalkIn
import Derived.TacticsInMore
import Derived.LoopNIn
import Derived.LoopIn
import Derived.RegionIn
import Derived.Sort.QuietIn
import Derived.Test.YtlghjjennhpjeaaGreatDoorEnS
import Derived.RangeFuncNested
namespace Go.Proofs.YtlghjjennhpjeaaGreatDoor
open Go.Conc Go.ConcN Go.RowKit Go.Gh Go.Conc.Lib Go.ConcR.Gen Go.ConcN.Gen
open Go.ConcR (Payload)


def LoC [OldG] (Wg C B b : Nat) : Prop := b < B ∧ b ≠ Wg ∧ b ≠ C ∧ ¬ OldG.old b

/-- Where all lies: the variables columns, k, pieces; the list of the pieces; the pieces. -/
structure EnvC where
  ba : Nat
  bk : Nat
  bd : Nat
  bD : Nat
  oD : Nat
  cD : Nat
  cs : List Col
  h0 : Nat → Option Obj
def EnvC.cap (E : EnvC) (bj : Nat) : CapC := { ba := E.ba, bj := bj, bk := E.bk, bd := E.bd, bD := E.bD, oD := E.oD, cD := E.cD }
def EnvC.res (E : EnvC) (k L t : Nat) : List Nat := comb (zsOf ((List.range k).map (rowV k t)) E.cs) (List.replicate L 0)
structure EnvCOk (E : EnvC) (k n L : Nat) : Prop where
  k0 : 0 < k
  k1 : k ≤ 128
  n1 : n ≤ 128
  hL : L ≤ 140737488355328
  len : E.cs.length = k
  cl : ∀ c ∈ E.cs, LenIs c.ys L ∧ ∀ y ∈ c.ys, y < 256

structure LowC [OldG] (Wg C B k n L : Nat) (E : EnvC) (w : World) : Prop where
  la : LoC Wg C B E.ba
  lk : LoC Wg C B E.bk
  ld : LoC Wg C B E.bd
  lD : LoC Wg C B E.bD
  va : w.cell? ⟨E.ba, 0, none⟩ = some (.slice (some ⟨C, 0, none⟩) n n)
  vk : w.cell? ⟨E.bk, 0, none⟩ = some (.int .i64 ((k : Nat) : Int))
  vd : w.cell? ⟨E.bd, 0, none⟩ = some (.slice (some ⟨E.bD, E.oD, none⟩) k E.cD)
  hc : ∀ j c, E.cs[j]? = some c → w.cell? ⟨E.bD, E.oD + j, none⟩ = some (.slice c.bs L c.co)
  hcol : ∀ c ∈ E.cs, LoC Wg C B c.bo ∧ (0 < L → c.bs = some ⟨c.bo, c.oo, none⟩) ∧ ∀ i y, c.ys[i]? = some y → w.cell? ⟨c.bo, c.oo + i, none⟩ = some (.int .u8 ((y : Nat) : Int))
  std : ∀ b, b < B → b ≠ Wg → b ≠ C → w.heap[b]? = E.h0 b
theorem LowC.keep [OldG] {Wg C B k n L : Nat} {E : EnvC} {w w₁ : World} (h : LowC Wg C B k n L E w) (st0 : ∀ b, b < B → b ≠ Wg → b ≠ C → w₁.heap[b]? = w.heap[b]?) : LowC Wg C B k n L E w₁ := by
  have st : ∀ {b : Nat}, LoC Wg C B b → ∀ o, w₁.cell? ⟨b, o, none⟩ = w.cell? ⟨b, o, none⟩ := fun hb o => by simp only [World.cell?, st0 _ hb.1 hb.2.1 hb.2.2.1]
  exact ⟨h.la, h.lk, h.ld, h.lD, (st h.la _).trans h.va, (st h.lk _).trans h.vk, (st h.ld _).trans h.vd, fun j c e => (st h.lD _).trans (h.hc j c e), fun c hc => let ⟨h1, h2, h3⟩ := h.hcol c hc; ⟨h1, h2, fun i y e => (st h1 _).trans (h3 i y e)⟩, fun b h1 h2 h3 => (st0 b h1 h2 h3).trans (h.std b h1 h2 h3)⟩

section
variable [Payload] [OldG] {Wg C k n B L : Nat} {E : EnvC}
structure SFc (Wg C k n B L : Nat) (E : EnvC) (s0 : Nat) (w : World) : Prop where
  bs : Bs C B w
  pay : PayAt C n w
  low : LowC Wg C B k n L E w
  sb : C < s0 ∧ B ≤ s0 ∧ s0 ≤ w.heap.size
theorem SFc.rely {s0 : Nat} {w w₁ : World} (h : SFc Wg C k n B L E s0 w) (r : Ro Wg C n B (fun i => ¬ i < n) w w₁) : SFc Wg C k n B L E s0 w₁ :=
  ⟨h.bs.rely r, r.pay h.pay, h.low.keep r.low, ⟨h.sb.1, h.sb.2.1, Nat.le_trans h.sb.2.2 r.size⟩⟩
theorem SFc.ex {s0 : Nat} {w w₁ : World} {S : Nat → Prop} (h : SFc Wg C k n B L E s0 w) (hb : Bs C B w₁) (r : Ex Wg C n B (fun i => ¬ i < n) S w w₁) : SFc Wg C k n B L E s0 w₁ :=
  ⟨hb, r.pay h.pay, h.low.keep r.low, ⟨h.sb.1, h.sb.2.1, Nat.le_trans h.sb.2.2 r.size⟩⟩
theorem SFc.base {s0 : Nat} {w : World} (h : SFc Wg C k n B L E s0 w) : SFc Wg C k n B L E w.heap.size w := ⟨h.bs, h.pay, h.low, ⟨h.bs.hC, h.bs.hB, Nat.le_refl _⟩⟩
structure SJc (Wg C k n B L : Nat) (E : EnvC) (s0 bj : Nat) (vj : Value) (w : World) : Prop where
  sf : SFc Wg C k n B L E s0 w
  lj : s0 ≤ bj
  mj : Mine w bj
  hj : w.heap[bj]? = some (.cells #[vj] 3)
theorem SJc.rely {s0 bj : Nat} {vj : Value} {w w₁ : World} (h : SJc Wg C k n B L E s0 bj vj w) (r : Ro Wg C n B (fun i => ¬ i < n) w w₁) : SJc Wg C k n B L E s0 bj vj w₁ := ⟨h.sf.rely r, h.lj, (r.mineAt _).2 h.mj, (r.mine _ h.mj).trans h.hj⟩
theorem SFc.alloc1 {s0 : Nat} {w : World} (h : SFc Wg C k n B L E s0 w) (v : Value) : SJc Wg C k n B L E s0 w.heap.size v (w.alloc (.cells #[v] 3)) :=
  ⟨h.ex (S := fun _ => False) (h.bs.alloc _) (Ex.alloc h.bs.hC h.bs.hB (fun _ hb => h.bs.lt hb) _), h.sb.2.2, mine_fresh (w := w) (w' := w.alloc _) rfl h.bs.tg (Nat.le_refl _) (by rw [sz_alloc]; omega), by rw [heap_new]⟩
theorem SJc.jC {s0 bj : Nat} {vj : Value} {w : World} (h : SJc Wg C k n B L E s0 bj vj w) : bj ≠ C := by have := h.lj; have := h.sf.sb.1; omega
theorem SJc.cj {s0 bj : Nat} {vj : Value} {w : World} (h : SJc Wg C k n B L E s0 bj vj w) : w.cell? ⟨bj, 0, none⟩ = some vj ∧ w.frozen? ⟨bj, 0, none⟩ = false := ⟨by rw [cell_of w h.hj]; rfl, thaw_of w h.hj 0⟩
theorem SJc.setj {s0 bj : Nat} {vj : Value} {w : World} (h : SJc Wg C k n B L E s0 bj vj w) (v : Value) : SJc Wg C k n B L E s0 bj v (w.setCell ⟨bj, 0, none⟩ v) :=
  ⟨h.sf.ex (S := fun x => s0 ≤ x) (h.sf.bs.set _ _) (Ex.set h.jC h.lj (by have := h.sf.sb.2.1; have := h.lj; show ¬ (bj < B ∧ _); omega)), h.lj, mine_grow (w := w) (w' := w.setCell _ _) rfl (by rw [sz_set]; omega) h.mj, heap_set w h.hj 0 v⟩
theorem SFc.book {s0 : Nat} {w : World} (h : SFc Wg C k n B L E s0 w) {l : List Nat} (hl : ∀ b ∈ l, b < w.heap.size) : SFc Wg C k n B L E s0 (w.out (book w.heap.size l)) :=
  ⟨⟨by rw [tag_book]; exact Nat.le_refl _, h.bs.hC, h.bs.hB, fun b hb => by rw [own_book] at hb; exact hl b hb⟩, h.pay, h.low.keep (fun _ _ _ _ => rfl), h.sb⟩
/-- The worker's world, as the starter leaves it. -/
theorem wic_of {s0 j bj : Nat} {w : World} (h : SJc Wg C k n B L E s0 bj (.int .i64 ((j : Nat) : Int)) w) : WIc Wg C n B (E.cap bj) k L j E.cs (w.out (book w.heap.size [bj])) := by
  have hf := h.sf.low
  exact ⟨⟨by rw [tag_book]; exact Nat.le_refl _, h.sf.bs.hC, h.sf.bs.hB, fun b hb => by rw [own_book, List.mem_singleton] at hb; subst hb; exact h.sf.bs.lt h.mj⟩, h.sf.pay, .inr hf.la, hf.va, .inl (.inl (by rw [own_book]; exact List.mem_singleton.2 rfl)), h.cj.1,
    .inr hf.lk, hf.vk, .inr hf.ld, hf.vd, .inr hf.lD, hf.hc, fun c hc => ⟨.inr (hf.hcol c hc).1, (hf.hcol c hc).2⟩⟩
end

/-- The temporaries at the loop's head. -/
def TC (E : EnvC) (Wg n j : Nat) (T : Array Value) : Prop := ∃ f : Nat → Value, T = #[f 0, f 1, f 2, .pointer (some ⟨E.bk, 0, none⟩), f 4, f 5, f 6, .pointer (some ⟨E.bd, 0, none⟩), .pointer (some ⟨E.ba, 0, none⟩), .pointer (some ⟨Wg, 0, none⟩), f 10, f 11, f 12, f 13, f 14, f 15, f 16, .int .i64 ((n : Nat) : Int), .int .i64 ((j : Nat) : Int), f 19, f 20, f 21, f 22, f 23, f 24, f 25]
theorem tc_mk {E : EnvC} {Wg n j : Nat} {T : Array Value} (h : T = #[T.getD 0 undef, T.getD 1 undef, T.getD 2 undef, .pointer (some ⟨E.bk, 0, none⟩), T.getD 4 undef, T.getD 5 undef, T.getD 6 undef, .pointer (some ⟨E.bd, 0, none⟩), .pointer (some ⟨E.ba, 0, none⟩), .pointer (some ⟨Wg, 0, none⟩), T.getD 10 undef, T.getD 11 undef, T.getD 12 undef, T.getD 13 undef, T.getD 14 undef, T.getD 15 undef, T.getD 16 undef, .int .i64 ((n : Nat) : Int), .int .i64 ((j : Nat) : Int), T.getD 19 undef, T.getD 20 undef, T.getD 21 undef, T.getD 22 undef, T.getD 23 undef, T.getD 24 undef, T.getD 25 undef]) : TC E Wg n j T := ⟨fun i => T.getD i undef, h⟩

def gFst : Code → Code | .seq x _ => x | c => c
def gSnd : Code → Code | .seq _ y => y | c => c
def gIn : Code → Code | .block _ c => c | .loop c => c | c => c
def gOps : Code → Array Oper | .region _ o _ => o | _ => #[]
noncomputable def gBody : Code := Tryz.f53.body.getD .skip
noncomputable def gTail : Code := gSnd (gSnd (gSnd (gSnd gBody)))
noncomputable def gLoop : Code := gIn (gIn (gSnd (gFst gTail)))
noncomputable def gBlk : Code := gIn (gFst (gSnd (gSnd gLoop)))
noncomputable def qg4 : {x : Array Oper // x = gOps (gFst (gFst gTail))} := ⟨_, by (simp only [gBody, gTail, gFst, gSnd, gOps, Tryz.f53, Option.getD_some]; rfl)⟩
noncomputable def og4 : Array Oper := qg4.1
noncomputable def qg5 : {x : Array Oper // x = gOps (gFst gLoop)} := ⟨_, by (simp only [gBody, gLoop, gTail, gFst, gSnd, gIn, gOps, Tryz.f53, Option.getD_some]; rfl)⟩
noncomputable def og5 : Array Oper := qg5.1
noncomputable def qg6 : {x : Array Oper // x = gOps (gFst gBlk)} := ⟨_, by (simp only [gBody, gBlk, gLoop, gTail, gFst, gSnd, gIn, gOps, Tryz.f53, Option.getD_some]; rfl)⟩
noncomputable def og6 : Array Oper := qg6.1
noncomputable def qg7 : {x : Array Oper // x = gOps (gFst (gSnd gBlk))} := ⟨_, by (simp only [gBody, gBlk, gLoop, gTail, gFst, gSnd, gIn, gOps, Tryz.f53, Option.getD_some]; rfl)⟩
noncomputable def og7 : Array Oper := qg7.1
noncomputable def qg8 : {x : Array Oper // x = gOps (gSnd (gSnd gBlk))} := ⟨_, by (simp only [gBody, gBlk, gLoop, gTail, gFst, gSnd, gIn, gOps, Tryz.f53, Option.getD_some]; rfl)⟩
noncomputable def og8 : Array Oper := qg8.1
noncomputable def qg9 : {x : Array Oper // x = gOps (gSnd (gSnd (gSnd gLoop)))} := ⟨_, by (simp only [gBody, gLoop, gTail, gFst, gSnd, gIn, gOps, Tryz.f53, Option.getD_some]; rfl)⟩
noncomputable def og9 : Array Oper := qg9.1
noncomputable def qg10 : {x : Array Oper // x = gOps (gFst (gSnd gTail))} := ⟨_, by (simp only [gBody, gTail, gFst, gSnd, gOps, Tryz.f53, Option.getD_some]; rfl)⟩
noncomputable def og10 : Array Oper := qg10.1
noncomputable def qg11 : {x : Array Oper // x = gOps (gFst (gSnd (gSnd gTail)))} := ⟨_, by (simp only [gBody, gTail, gFst, gSnd, gOps, Tryz.f53, Option.getD_some]; rfl)⟩
noncomputable def og11 : Array Oper := qg11.1
noncomputable def gEnd2 : Code := .seq (.region 11 og11 false) .ret
noncomputable def gEnd : Code := .seq (.region 10 og10 false) gEnd2
theorem gTail_eq : gTail = .seq (.seq (.region 4 og4 false) (.block 0 (.loop gLoop))) gEnd := by kernel_rfl
theorem gLoop_eq : gLoop = .seq (.region 5 og5 false) (.seq (.cond (.tmp 19) .skip (.exit 0)) (.seq (.block 1 gBlk) (.region 9 og9 false))) := by kernel_rfl
theorem gBlk_eq : gBlk = .seq (.region 6 og6 false) (.seq (.region 7 og7 false) (.region 8 og8 false)) := by kernel_rfl
theorem ng4 : og4.size = 3 := by kernel_rfl
theorem ng5 : og5.size = 1 := by kernel_rfl
theorem ng6 : og6.size = 3 := by kernel_rfl
theorem ng7 : og7.size = 1 := by kernel_rfl
theorem ng8 : og8.size = 2 := by kernel_rfl
theorem ng9 : og9.size = 2 := by kernel_rfl
theorem ng10 : og10.size = 1 := by kernel_rfl
theorem ng11 : og11.size = 2 := by kernel_rfl

section
variable [Payload] [OldG] {Wg C k n B L : Nat} {E : EnvC}

/-- Behind the join. -/
def KC (Wg C k n B L : Nat) (E : EnvC) (cs : List Frame) (ids : List Nat) (g : Goroutine) (w : World) : Prop :=
  ∃ T s0 j ops, g = G ((base 53).at ⟨T, []⟩ (.inRegion ops [] :: [.code gEnd2])) cs ∧ TC E Wg n j T ∧ SFc Wg C k n B L E s0 w ∧ ∀ x, x ∈ ids ↔ x < n
theorem KC.rely {cs : List Frame} {ids : List Nat} {g : Goroutine} {w w₁ : World} (h : KC Wg C k n B L E cs ids g w) (r : Ro Wg C n B (fun i => ¬ i < n) w w₁) : KC Wg C k n B L E cs ids g w₁ := by
  obtain ⟨T, s0, j, ops, h1, h2, h3, h4⟩ := h
  exact ⟨T, s0, j, ops, h1, h2, h3.rely r, h4⟩

/-- What is stopped at: the next Add, or Wait. -/
def StC (Wg C k n B L : Nat) (E : EnvC) (cs : List Frame) : Nat → List Nat → Goroutine → World → Prop
  | 0, ids => AtWt Tryz.prog link.tWg Wg (KC Wg C k n B L E cs) ids
  | r + 1, ids => AtAdd Tryz.prog link.tWg Wg C n B (· < n) (WPr C L (E.res k L)) (Sp Tryz.prog link.tWg Wg C n B (· < n) (WPr C L (E.res k L)) (KC Wg C k n B L E cs) r) ids
theorem spc_iff {cs : List Frame} (r : Nat) (ids : List Nat) (g : Goroutine) (w : World) : Sp Tryz.prog link.tWg Wg C n B (· < n) (WPr C L (E.res k L)) (KC Wg C k n B L E cs) r ids g w ↔ ∃ m, Goes Tryz.prog true (Ro Wg C n B (fun i => ¬ i < n)) (Dg Wg C n B (fun i => ¬ i < n)) (StC Wg C k n B L E cs r ids) m g w := by cases r <;> exact Iff.rfl

set_option maxRecDepth 100000 in
set_option maxHeartbeats 4000000 in
/-- The loop is over: Wait. -/
theorem c_last {cs : List Frame} : ∃ m, ∀ (T : Array Value) (w : World) (ids : List Nat) (s0 : Nat), TC E Wg n n T → SFc Wg C k n B L E s0 w → (∀ x, x ∈ ids ↔ x < n) →
    Goes Tryz.prog true (Ro Wg C n B (fun i => ¬ i < n)) (Dg Wg C n B (fun i => ¬ i < n)) (StC Wg C k n B L E cs 0 ids) m (G ((base 53).at ⟨T, []⟩ (.code gLoop :: .inLoop gLoop :: .inBlock 0 :: [.code gEnd])) cs) w := by
  co_apply Exists.intro
  rintro T w ids s0 ⟨f, rfl⟩ hF hids
  have hnl : ¬ ((n : Int) < (n : Int)) := by omega
  generalize hkk : Item.inLoop gLoop :: [Item.inBlock 0, Item.code gEnd] = kk
  rw [gLoop_eq]
  (co_apply Goes.step rfl; intro _ hRq; replace hF := SFc.rely hF hRq; clear hRq; rw [stepG_seq]; simp only [goes_go]; refine ⟨Terms.idle termsG _, ?_⟩)
  (co_apply Goes.step rfl; intro _ hRq; replace hF := SFc.rely hF hRq; clear hRq; rw [stepG_region, ng5]; simp only [goes_go, List.range, List.range.loop]; refine ⟨Terms.idle termsG _, ?_⟩; simp only [og5, qg5])
  (co_apply Goes.step rfl; intro _ hRq; replace hF := SFc.rely hF hRq; clear hRq
   refine goes_oper_k rfl rfl (by decide) (fun Kq hKq => ?_)
   (skip)
   go_simp
   try (unfold stored; go_simp)
   refine hKq _ _ ⟨?_, ?_⟩
   · (co_quiet termsG)
   clear hKq Kq
   try walk_nrm)
  (co_apply Goes.step rfl; intro _ hRq; replace hF := SFc.rely hF hRq; clear hRq; rw [stepG_region_end]; simp only [goes_go]; refine ⟨Terms.idle termsG _, ?_⟩)
  (co_apply Goes.step rfl; intro _ hRq; replace hF := SFc.rely hF hRq; clear hRq; rw [stepG_seq]; simp only [goes_go]; refine ⟨Terms.idle termsG _, ?_⟩)
  (co_apply Goes.step rfl; intro _ hRq; replace hF := SFc.rely hF hRq; clear hRq)
  rw [stepG_cond (t := false) rfl]
  simp only [goes_go, Bool.false_eq_true, if_false]
  refine ⟨Terms.idle termsG _, ?_⟩
  (co_apply Goes.step rfl; intro _ hRq; replace hF := SFc.rely hF hRq; clear hRq)
  subst hkk
  refine goes_exit rfl ?_
  refine ⟨Terms.idle termsG _, ?_⟩
  unfold gEnd
  (co_apply Goes.step rfl; intro _ hRq; replace hF := SFc.rely hF hRq; clear hRq; rw [stepG_seq]; simp only [goes_go]; refine ⟨Terms.idle termsG _, ?_⟩)
  (co_apply Goes.step rfl; intro _ hRq; replace hF := SFc.rely hF hRq; clear hRq; rw [stepG_region, ng10]; simp only [goes_go, List.range, List.range.loop]; refine ⟨Terms.idle termsG _, ?_⟩; simp only [og10, qg10])
  (co_apply Goes.step rfl; intro _ hRq; replace hF := SFc.rely hF hRq; clear hRq)
  refine goes_call rfl rfl (by decide) rfl wgLib.f_wait (nm_wait link) rfl ⟨Terms.idle termsG _, ?_⟩
  walk_nrmf waitFn
  refine Goes.stop (n := 0) fun w₁ hR => ?_
  replace hF := hF.rely hR
  clear hR
  refine ⟨rfl, _, waitW wgLib, _, s0, n, _, rfl, ?_, hF, hids⟩
  walk_nrm
  exact tc_mk rfl

set_option maxRecDepth 100000 in
set_option maxHeartbeats 4000000 in
/-- A round. -/
theorem c_round (hE : EnvCOk E k n L) {cs : List Frame} {j : Nat} (hj : j < n) (r : Nat) {m1 : Nat}
    (ih : ∀ (T : Array Value) (w : World) (ids : List Nat) (s0 : Nat), TC E Wg n (j + 1) T → SFc Wg C k n B L E s0 w → (∀ x, x ∈ ids ↔ x < j + 1) → Goes Tryz.prog true (Ro Wg C n B (fun i => ¬ i < n)) (Dg Wg C n B (fun i => ¬ i < n)) (StC Wg C k n B L E cs r ids) m1 (G ((base 53).at ⟨T, []⟩ (.code gLoop :: .inLoop gLoop :: .inBlock 0 :: [.code gEnd])) cs) w) :
    ∃ m, ∀ (T : Array Value) (w : World) (ids : List Nat) (s0 : Nat), TC E Wg n j T → SFc Wg C k n B L E s0 w → (∀ x, x ∈ ids ↔ x < j) →
      Goes Tryz.prog true (Ro Wg C n B (fun i => ¬ i < n)) (Dg Wg C n B (fun i => ¬ i < n)) (StC Wg C k n B L E cs (r + 1) ids) m (G ((base 53).at ⟨T, []⟩ (.code gLoop :: .inLoop gLoop :: .inBlock 0 :: [.code gEnd])) cs) w := by
  obtain ⟨mw, hmw⟩ := worksC (Wg := Wg) (C := C) (n := n) (B := B) k L hE.k0 hE.k1 hE.n1 hE.hL j hj
  co_apply Exists.intro
  rintro T w ids s0 ⟨f, rfl⟩ hF hids
  replace hF := hF.base
  generalize hs1 : w.heap.size = s1 at hF
  clear hs1 s0
  have hjI : (j : Int) < (n : Int) := by omega
  have hn1 := hE.n1
  generalize hkk : Item.inLoop gLoop :: [Item.inBlock 0, Item.code gEnd] = kk
  rw [gLoop_eq]
  (co_apply Goes.step rfl; intro _ hRq; replace hF := SFc.rely hF hRq; clear hRq; rw [stepG_seq]; simp only [goes_go]; refine ⟨Terms.idle termsG _, ?_⟩)
  (co_apply Goes.step rfl; intro _ hRq; replace hF := SFc.rely hF hRq; clear hRq; rw [stepG_region, ng5]; simp only [goes_go, List.range, List.range.loop]; refine ⟨Terms.idle termsG _, ?_⟩; simp only [og5, qg5])
  (co_apply Goes.step rfl; intro _ hRq; replace hF := SFc.rely hF hRq; clear hRq
   refine goes_oper_k rfl rfl (by decide) (fun Kq hKq => ?_)
   (skip)
   go_simp
   try (unfold stored; go_simp)
   refine hKq _ _ ⟨?_, ?_⟩
   · (co_quiet termsG)
   clear hKq Kq
   try walk_nrm)
  (co_apply Goes.step rfl; intro _ hRq; replace hF := SFc.rely hF hRq; clear hRq; rw [stepG_region_end]; simp only [goes_go]; refine ⟨Terms.idle termsG _, ?_⟩)
  (co_apply Goes.step rfl; intro _ hRq; replace hF := SFc.rely hF hRq; clear hRq; rw [stepG_seq]; simp only [goes_go]; refine ⟨Terms.idle termsG _, ?_⟩)
  (co_apply Goes.step rfl; intro _ hRq; replace hF := SFc.rely hF hRq; clear hRq)
  rw [stepG_cond (t := true) rfl]
  simp only [goes_go, if_true]
  refine ⟨Terms.idle termsG _, ?_⟩
  (co_apply Goes.step rfl; intro _ hRq; replace hF := SFc.rely hF hRq; clear hRq; rw [stepG_skip]; simp only [goes_go]; refine ⟨Terms.idle termsG _, ?_⟩)
  (co_apply Goes.step rfl; intro _ hRq; replace hF := SFc.rely hF hRq; clear hRq; rw [stepG_seq]; simp only [goes_go]; refine ⟨Terms.idle termsG _, ?_⟩)
  (co_apply Goes.step rfl; intro _ hRq; replace hF := SFc.rely hF hRq; clear hRq; rw [stepG_block]; simp only [goes_go]; refine ⟨Terms.idle termsG _, ?_⟩)
  rw [gBlk_eq]
  (co_apply Goes.step rfl; intro _ hRq; replace hF := SFc.rely hF hRq; clear hRq; rw [stepG_seq]; simp only [goes_go]; refine ⟨Terms.idle termsG _, ?_⟩)
  (co_apply Goes.step rfl; intro _ hRq; replace hF := SFc.rely hF hRq; clear hRq; rw [stepG_region, ng6]; simp only [goes_go, List.range, List.range.loop]; refine ⟨Terms.idle termsG _, ?_⟩; simp only [og6, qg6])
  (co_apply Goes.step rfl; intro _ hRq; replace hF := SFc.rely hF hRq; clear hRq
   refine goes_oper_k rfl rfl (by decide) (fun Kq hKq => ?_)
   (skip)
   go_simp
   try (unfold stored; go_simp)
   refine hKq _ _ ⟨?_, ?_⟩
   · (co_quiet termsG)
   clear hKq Kq
   try walk_nrm)
  (co_apply Goes.step rfl; intro _ hRq; replace hF := SFc.rely hF hRq; clear hRq
   refine goes_oper_k rfl rfl (by decide) (fun Kq hKq => ?_)
   (skip)
   go_simp
   try (unfold stored; go_simp)
   refine hKq _ _ ⟨?_, ?_⟩
   · (rw [listed_nil (by simp [go_sem, *])]; exact dg_alloc hF.bs.hC _ rfl)
   clear hKq Kq
   try walk_nrm)
  replace hF := hF.alloc1 (.int .i64 0)
  generalize hN : Array.size (World.heap _) = bj at hF ⊢
  clear hN
  (co_apply Goes.step rfl; intro _ hRq; replace hF := SJc.rely hF hRq; clear hRq
   refine goes_oper_k rfl rfl (by decide) (fun Kq hKq => ?_)
   (have h0 := hF.cj.1; have h1 := hF.cj.2)
   go_simp
   try (unfold stored; go_simp)
   refine hKq _ _ ⟨?_, ?_⟩
   · (refine dg_set hF.mj hF.jC (hF.sf.bs.lt hF.mj) ?_; co_evs (exact ⟨_, _, rfl, rfl⟩))
   clear hKq Kq
   try walk_nrm)
  clear h0 h1
  replace hF := hF.setj (.int .i64 ((j : Nat) : Int))
  (co_apply Goes.step rfl; intro _ hRq; replace hF := SJc.rely hF hRq; clear hRq; rw [stepG_region_end]; simp only [goes_go]; refine ⟨Terms.idle termsG _, ?_⟩)
  (co_apply Goes.step rfl; intro _ hRq; replace hF := SJc.rely hF hRq; clear hRq; rw [stepG_seq]; simp only [goes_go]; refine ⟨Terms.idle termsG _, ?_⟩)
  (co_apply Goes.step rfl; intro _ hRq; replace hF := SJc.rely hF hRq; clear hRq; rw [stepG_region, ng7]; simp only [goes_go, List.range, List.range.loop]; refine ⟨Terms.idle termsG _, ?_⟩; simp only [og7, qg7])
  (co_apply Goes.step rfl; intro _ hRq; replace hF := SJc.rely hF hRq; clear hRq)
  refine goes_call rfl rfl (by decide) rfl wgLib.f_add (nm_add link) rfl ⟨Terms.idle termsG _, ?_⟩
  walk_nrmf addFn
  refine Goes.stop (n := 0) fun w₁ hR => ?_
  replace hF := hF.rely hR
  clear hR
  have hA := fun (b₀ : Frame) (a₀ : Act) (ops₀ : Array Oper) (i₀ : Nat) (rest₀ : List Nat) (k₀ : List Item) => addW (L := link) (P := Tryz.prog) (Wg := Wg) (b₀ := b₀) (a₀ := a₀) (ops₀ := ops₀) (i₀ := i₀) (rest₀ := rest₀) (k₀ := k₀) (cs := cs) wgLib
  simp only [body_add, addFn, Option.getD_some] at hA
  refine ⟨rfl, _, 0 + 1 + 1 + 1, hA _ _ _ _ _ _, ?_⟩
  clear hA
  walk_nrm
  (co_apply Goes.step rfl; intro _ hRq; replace hF := SJc.rely hF hRq; clear hRq; rw [stepG_region_end]; simp only [goes_go]; refine ⟨Terms.idle termsG _, ?_⟩)
  (co_apply Goes.step rfl; intro _ hRq; replace hF := SJc.rely hF hRq; clear hRq; rw [stepG_region, ng8]; simp only [goes_go, List.range, List.range.loop]; refine ⟨Terms.idle termsG _, ?_⟩; simp only [og8, qg8])
  (co_apply Goes.step rfl; intro _ hRq; replace hF := SJc.rely hF hRq; clear hRq
   refine goes_oper_k rfl rfl (by decide) (fun Kq hKq => ?_)
   (skip)
   go_simp
   try (unfold stored; go_simp)
   refine hKq _ _ ⟨?_, ?_⟩
   · (co_quiet termsG)
   clear hKq Kq
   try walk_nrm)
  refine Goes.stop (n := 0) fun w₂ r₂ => ?_
  replace hF := hF.rely r₂
  clear r₂
  refine ⟨rfl, ?_⟩
  rw [stepG_spawn (d := wcallC Wg (E.cap bj)) (w' := w₂) (f := .func 84) (c := caughtC Wg (E.cap bj)) rfl rfl (by decide) (by simp [go_sem, wcallC, caughtC, EnvC.cap, Deferred.ofValue]) rfl]
  generalize hL : listed _ _ _ _ _ = Lx
  have hLx : Lx = #[] := by
    rw [← hL]
    simp [listed, go_sem, seen, Deferred.ofValue]
    rfl
  subst hLx
  clear hL
  refine ⟨_, _, j, [bj], rfl, rfl, fun hx => by have := (hids j).1 hx; omega, hj, fun b hb => by rw [List.mem_singleton] at hb; subst hb; exact hF.mj,
    ⟨mw, hmw _ _ _ _ hE.len hE.cl rfl (wic_of hF)⟩, fun l' hl' => (spc_iff r _ _ _).2 ⟨m1 + 1 + 1 + 1 + 1 + 1 + 1 + 1, ?_⟩⟩
  walk_nrm
  have hS : SFc Wg C k n B L E s1 (w₂.out (book w₂.heap.size l')) := hF.sf.book (fun b hb => hF.sf.bs.lt ((hl' b).1 hb).1)
  clear hF
  have hw1 : IntKind.i64.wrap ((j : Int) + 1) = ((j + 1 : Nat) : Int) := by rw [IntKind.wrap_i64]; omega
  (co_apply Goes.step rfl; intro _ hRq; replace hS := SFc.rely hS hRq; clear hRq; rw [stepG_region_end]; simp only [goes_go]; refine ⟨Terms.idle termsG _, ?_⟩)
  (co_apply Goes.step rfl; intro _ hRq; replace hS := SFc.rely hS hRq; clear hRq; rw [stepG_inBlock]; simp only [goes_go]; refine ⟨Terms.idle termsG _, ?_⟩)
  (co_apply Goes.step rfl; intro _ hRq; replace hS := SFc.rely hS hRq; clear hRq; rw [stepG_region, ng9]; simp only [goes_go, List.range, List.range.loop]; refine ⟨Terms.idle termsG _, ?_⟩; simp only [og9, qg9])
  (co_apply Goes.step rfl; intro _ hRq; replace hS := SFc.rely hS hRq; clear hRq
   refine goes_oper_k rfl rfl (by decide) (fun Kq hKq => ?_)
   (skip)
   go_simp
   try (unfold stored; go_simp)
   refine hKq _ _ ⟨?_, ?_⟩
   · (co_quiet termsG)
   clear hKq Kq
   try walk_nrm)
  (co_apply Goes.step rfl; intro _ hRq; replace hS := SFc.rely hS hRq; clear hRq
   refine goes_oper_k rfl rfl (by decide) (fun Kq hKq => ?_)
   (skip)
   go_simp
   try (unfold stored; go_simp)
   refine hKq _ _ ⟨?_, ?_⟩
   · (co_quiet termsG)
   clear hKq Kq
   try walk_nrm)
  (co_apply Goes.step rfl; intro _ hRq; replace hS := SFc.rely hS hRq; clear hRq; rw [stepG_region_end]; simp only [goes_go]; refine ⟨Terms.idle termsG _, ?_⟩)
  subst hkk
  (co_apply Goes.step rfl; intro _ hRq; replace hS := SFc.rely hS hRq; clear hRq; rw [stepG_inLoop]; simp only [goes_go]; refine ⟨Terms.idle termsG _, ?_⟩)
  refine ih _ _ (j :: ids) s1 (tc_mk rfl) hS (fun x => ?_)
  rw [List.mem_cons, hids]
  omega

theorem spc (hE : EnvCOk E k n L) {cs : List Frame} : ∀ (d j : Nat), j + d = n → ∃ m, ∀ (T : Array Value) (w : World) (ids : List Nat) (s0 : Nat), TC E Wg n j T → SFc Wg C k n B L E s0 w → (∀ x, x ∈ ids ↔ x < j) →
    Goes Tryz.prog true (Ro Wg C n B (fun i => ¬ i < n)) (Dg Wg C n B (fun i => ¬ i < n)) (StC Wg C k n B L E cs d ids) m (G ((base 53).at ⟨T, []⟩ (.code gLoop :: .inLoop gLoop :: .inBlock 0 :: [.code gEnd])) cs) w
  | 0, j, hd => by
    obtain rfl : j = n := by omega
    exact c_last (Wg := Wg) (C := C) (n := j) (B := B) (L := L) (E := E) (cs := cs)
  | d + 1, j, hd => by
    obtain ⟨m1, ih⟩ := spc hE d (j + 1) (by omega)
    exact c_round hE (by omega) d ih

def TB (E : EnvC) (Wg : Nat) (T : Array Value) : Prop := ∃ f : Nat → Value, T = #[f 0, f 1, f 2, .pointer (some ⟨E.bk, 0, none⟩), f 4, f 5, f 6, .pointer (some ⟨E.bd, 0, none⟩), .pointer (some ⟨E.ba, 0, none⟩), .pointer (some ⟨Wg, 0, none⟩), f 10, f 11, f 12, f 13, f 14, f 15, f 16, f 17, f 18, f 19, f 20, f 21, f 22, f 23, f 24, f 25]

set_option maxRecDepth 100000 in
set_option maxHeartbeats 4000000 in
theorem spc_start (hE : EnvCOk E k n L) {cs : List Frame} {T : Array Value} {w : World} {s0 : Nat} (hT : TB E Wg T) (hF : SFc Wg C k n B L E s0 w) :
    Sp Tryz.prog link.tWg Wg C n B (· < n) (WPr C L (E.res k L)) (KC Wg C k n B L E cs) n [] (G ((base 53).at ⟨T, []⟩ [.code gTail]) cs) w := by
  obtain ⟨m, hm⟩ := spc (Wg := Wg) (C := C) (k := k) (n := n) (B := B) (L := L) (E := E) hE (cs := cs) n 0 (by omega)
  rw [spc_iff]
  co_apply Exists.intro
  obtain ⟨f, rfl⟩ := hT
  rw [gTail_eq]
  (co_apply Goes.step rfl; intro _ hRq; replace hF := SFc.rely hF hRq; clear hRq; rw [stepG_seq]; simp only [goes_go]; refine ⟨Terms.idle termsG _, ?_⟩)
  (co_apply Goes.step rfl; intro _ hRq; replace hF := SFc.rely hF hRq; clear hRq; rw [stepG_seq]; simp only [goes_go]; refine ⟨Terms.idle termsG _, ?_⟩)
  (co_apply Goes.step rfl; intro _ hRq; replace hF := SFc.rely hF hRq; clear hRq; rw [stepG_region, ng4]; simp only [goes_go, List.range, List.range.loop]; refine ⟨Terms.idle termsG _, ?_⟩; simp only [og4, qg4])
  (co_apply Goes.step rfl; intro _ hRq; replace hF := SFc.rely hF hRq; clear hRq
   refine goes_oper_k rfl rfl (by decide) (fun Kq hKq => ?_)
   (have h0 := hF.low.va)
   go_simp
   try (unfold stored; go_simp)
   refine hKq _ _ ⟨?_, ?_⟩
   · (refine dg_read (b := E.ba) (.inr hF.low.la) (by have := hF.low.la.1; have := hF.bs.hB; omega) ?_; co_evs (exact ⟨_, rfl, rfl⟩))
   clear hKq Kq
   try walk_nrm)
  clear h0
  (co_apply Goes.step rfl; intro _ hRq; replace hF := SFc.rely hF hRq; clear hRq
   refine goes_oper_k rfl rfl (by decide) (fun Kq hKq => ?_)
   (skip)
   go_simp
   try (unfold stored; go_simp)
   refine hKq _ _ ⟨?_, ?_⟩
   · (co_quiet termsG)
   clear hKq Kq
   try walk_nrm)
  (co_apply Goes.step rfl; intro _ hRq; replace hF := SFc.rely hF hRq; clear hRq
   refine goes_oper_k rfl rfl (by decide) (fun Kq hKq => ?_)
   (skip)
   go_simp
   try (unfold stored; go_simp)
   refine hKq _ _ ⟨?_, ?_⟩
   · (co_quiet termsG)
   clear hKq Kq
   try walk_nrm)
  (co_apply Goes.step rfl; intro _ hRq; replace hF := SFc.rely hF hRq; clear hRq; rw [stepG_region_end]; simp only [goes_go]; refine ⟨Terms.idle termsG _, ?_⟩)
  (co_apply Goes.step rfl; intro _ hRq; replace hF := SFc.rely hF hRq; clear hRq; rw [stepG_block]; simp only [goes_go]; refine ⟨Terms.idle termsG _, ?_⟩)
  (co_apply Goes.step rfl; intro _ hRq; replace hF := SFc.rely hF hRq; clear hRq; rw [stepG_loop]; simp only [goes_go]; refine ⟨Terms.idle termsG _, ?_⟩)
  exact hm _ _ [] s0 (tc_mk rfl) hF (fun x => ⟨fun h => by simp at h, fun h => absurd h (by omega)⟩)
end
end Go.Proofs.YtlghjjennhpjeaaGreatDoor

/-
  The fork of coding.Columns, whatever is above it: up to it, what stands there, what lies behind the join; from the join back.
-/
namespace Go.Proofs.YtlghjjennhpjeaaGreatDoor
open Go.RowKit Go.Deep Go.Lf Go.Conc Go.ConcN Go.Gh
open Go.ConcR (Payload WgAt wgBlock)

theorem rea_here {P : Program} {Y : Nat → Option Obj} {Φ : Goroutine → World → Prop} {f : FuncId} {cs : List Frame} {k : List Item} {a : Act} {v : World} (h : ∀ w, Sim NoX Y w v → Φ (G ((base f).at a k) cs) w) : Rea P Y Φ f cs k a v := fun w hs => ⟨_, w, h w hs, .refl _ _⟩
theorem sfC : ∃ fn, Tryz.prog.funcs[53]? = some fn := ⟨_, Tryz.func53⟩
noncomputable def gc3 : Code := gSnd (gSnd (gSnd gBody))
noncomputable def qg3 : {x : Array Oper // x = gOps (gFst gc3)} := ⟨_, by simp only [gc3, gBody, gFst, gSnd, gOps, Tryz.f53, Option.getD_some]; rfl⟩
noncomputable def og3 : Array Oper := qg3.1
theorem gc3_eq : gc3 = .seq (.region 3 og3 false) gTail := by kernel_rfl
theorem ng3 : og3.size = 1 := by kernel_rfl

def TPc (bk bd ba : Nat) (T : Array Value) : Prop := ∃ f : Nat → Value, T = #[f 0, f 1, f 2, .pointer (some ⟨bk, 0, none⟩), f 4, f 5, f 6, .pointer (some ⟨bd, 0, none⟩), .pointer (some ⟨ba, 0, none⟩), f 9, f 10, f 11, f 12, f 13, f 14, f 15, f 16, f 17, f 18, f 19, f 20, f 21, f 22, f 23, f 24, f 25]
theorem tpc_mk {bk bd ba : Nat} {T : Array Value} (h : T = #[T.getD 0 undef, T.getD 1 undef, T.getD 2 undef, .pointer (some ⟨bk, 0, none⟩), T.getD 4 undef, T.getD 5 undef, T.getD 6 undef, .pointer (some ⟨bd, 0, none⟩), .pointer (some ⟨ba, 0, none⟩), T.getD 9 undef, T.getD 10 undef, T.getD 11 undef, T.getD 12 undef, T.getD 13 undef, T.getD 14 undef, T.getD 15 undef, T.getD 16 undef, T.getD 17 undef, T.getD 18 undef, T.getD 19 undef, T.getD 20 undef, T.getD 21 undef, T.getD 22 undef, T.getD 23 undef, T.getD 24 undef, T.getD 25 undef]) : TPc bk bd ba T := ⟨fun i => T.getD i undef, h⟩

/-- What stands at the fork. -/
structure PFc (k n L : Nat) (l : List UInt8) (bk bd P F ba C : Nat) (w : World) : Prop where
  vk : w.cell? ⟨bk, 0, none⟩ = some (.int .i64 ((k : Nat) : Int))
  vd : w.cell? ⟨bd, 0, none⟩ = some (.slice (some ⟨P, 0, none⟩) k k)
  hP : ∀ j, j < k → w.cell? ⟨P, j, none⟩ = some (.slice (some ⟨F, j * L, none⟩) L (k * L - j * L))
  hF : ∀ i, i < k * L → w.cell? ⟨F, i, none⟩ = some (.int .u8 ((bAt l i : Nat) : Int))
  va : w.cell? ⟨ba, 0, none⟩ = some (.slice (some ⟨C, 0, none⟩) n n)
  pay : w.heap[C]? = some (.cells (madeCells #[.slice none 0 0] n) 24)
  new : bk < C ∧ bd < C ∧ P < C ∧ F < C ∧ C < ba ∧ ba < w.heap.size

section
variable {X : Nat → Prop} {Y : Nat → Option Obj} {D : Nat → World → Array Event → Prop} {Stop : Goroutine → World → Prop} {w : World} {k n : Nat} {l : List UInt8} {vd : Value}
set_option maxHeartbeats 4000000 in
set_option maxRecDepth 100000 in
theorem columns_pre (hD : Dok X D) {cs : List Frame} (hk0 : 1 ≤ k) (hkn : k ≤ n) (hn : n ≤ 128) (hl : l.length ≤ 65536) (hv : Lies w vd (u8V l))
    (hnext : ∀ (bk bd P F ba C : Nat) (T : Array Value) (w1 : World), TPc bk bd ba T → PFc k n (lenC k l.length) l bk bd P F ba C w1 → (∀ b, b < w.heap.size → b < C) → (w.heap.size ≤ bk ∧ w.heap.size ≤ bd ∧ w.heap.size ≤ P ∧ w.heap.size ≤ F) → Bel w.heap.size w w1 → ReaI Tryz.prog X Y D Stop 53 cs [.code gc3] ⟨T, []⟩ w1) :
    ReaI Tryz.prog X Y D Stop 53 cs [.code gBody] ⟨#[.int .i64 ((k : Nat) : Int), .int .i64 ((n : Nat) : Int), vd] ++ Array.replicate 23 undef, []⟩ w := by
  unfold gBody
  simp only [Tryz.f53, Option.getD_some, Array.replicate_succ, Array.replicate_zero, List.push_toArray, List.append_toArray, List.nil_append, List.cons_append]
  have one : ∀ (u : World) (x : Value) (t : TypeId), (u.alloc (.cells #[x] t)).rowIs u.heap.size t 1 (fun _ => x) := fun u x t => World.rowIs_alloc u #[x] t (fun _ => x) (fun i hi => by
    obtain rfl : i = 0 := by simp at hi; omega
    rfl)
  refine reachI_go goodF hD (by kernel_rfl) rfl sfC fun R hR τ d' => ?_
  have hvA : Lies ({ w with tape := τ, drawn := d' } : World) vd (u8V l) := hv
  have hzA : ({ w with tape := τ, drawn := d' } : World).heap.size ≤ w.heap.size := Nat.le_refl _
  have hzB : w.heap.size ≤ ({ w with tape := τ, drawn := d' } : World).heap.size := Nat.le_refl _
  have hbA : Bel w.heap.size w { w with tape := τ, drawn := d' } := (Bel.refl _ w).tp τ d'
  generalize ({ w with tape := τ, drawn := d' } : World) = wA at hvA hzA hzB hbA ⊢
  have y0 := one wA (.int .i64 ((k : Nat) : Int)) 3
  have b0 : Below wA.heap.size wA (wA.alloc (.cells #[.int .i64 ((k : Nat) : Int)] 3)) := (Below.refl _ _).alloc (Nat.le_refl _) _
  have s0 : (wA.alloc (.cells #[.int .i64 ((k : Nat) : Int)] 3)).heap.size = wA.heap.size + 1 := by simp
  go_wp2
  have hv0 := hvA.below b0
  have bl0 := hbA.trans (Bel.of b0) hzB
  generalize wA.alloc (.cells #[.int .i64 ((k : Nat) : Int)] 3) = w0 at y0 b0 s0 hv0 bl0 ⊢
  clear b0
  refine reachI_go goodF hD (by kernel_rfl) rfl sfC fun R hR τ d' => ?_
  replace hv0 : Lies ({ w0 with tape := τ, drawn := d' } : World) vd (u8V l) := hv0
  replace y0 : ({ w0 with tape := τ, drawn := d' } : World).rowIs wA.heap.size 3 1 (fun _ => .int .i64 ((k : Nat) : Int)) := y0
  replace s0 : ({ w0 with tape := τ, drawn := d' } : World).heap.size = wA.heap.size + 1 := s0
  replace bl0 := bl0.tp τ d'
  generalize ({ w0 with tape := τ, drawn := d' } : World) = w0 at hv0 y0 s0 bl0 ⊢
  generalize hbk : wA.heap.size = bk at *
  have c1 := cut_any k hk0 (by omega) vd l hl w0 hv0
  have g0 := y0.cell (i := 0) (by omega)
  go_wp2_with (first | (go_at_call 83; (with_reducible refine c1.mono ?_); rintro e w1 ⟨P, F, rfl, hPc⟩))
  have hlo := hPc.lo
  have hb1 := hPc.bel
  have hPlt := hPc.list.lt
  have hFlt := hPc.row.lt
  have hs1 := hb1.size
  have v1 := one w1 (.slice (some ⟨P, 0, none⟩) k k) 23
  have s2 : (w1.alloc (.cells #[.slice (some ⟨P, 0, none⟩) k k] 23)).heap.size = w1.heap.size + 1 := by simp
  have ba1 : Below w1.heap.size w1 (w1.alloc (.cells #[.slice (some ⟨P, 0, none⟩) k k] 23)) := (Below.refl _ _).alloc (Nat.le_refl _) _
  have bl1 := (bl0.trans (Bel.of hb1) (by omega)).trans (Bel.of ba1) (by omega)
  have y1 := (y0.of_block (hb1.block bk (by omega))).of_block (ba1.block bk (by omega))
  have hls := hPc.list.of_block (ba1.block P hPlt)
  have hrw := hPc.row.of_block (ba1.block F hFlt)
  generalize w1.alloc (.cells #[.slice (some ⟨P, 0, none⟩) k k] 23) = wB at v1 s2 bl1 y1 hls hrw ⊢
  generalize hbd : w1.heap.size = bd at *
  clear hPc hb1 c1 g0 hv0 ba1
  refine reachI_go goodF hD (by kernel_rfl) rfl sfC fun R hR τ d' => ?_
  replace hls : ({ wB with tape := τ, drawn := d' } : World).rowIs _ _ _ _ := hls
  replace hrw : ({ wB with tape := τ, drawn := d' } : World).rowIs _ _ _ _ := hrw
  replace y1 : ({ wB with tape := τ, drawn := d' } : World).rowIs _ _ _ _ := y1
  replace v1 : ({ wB with tape := τ, drawn := d' } : World).rowIs _ _ _ _ := v1
  replace s2 : ({ wB with tape := τ, drawn := d' } : World).heap.size = bd + 1 := s2
  replace bl1 := bl1.tp τ d'
  generalize ({ wB with tape := τ, drawn := d' } : World) = wB at hls hrw y1 v1 s2 bl1 ⊢
  have m2 := make_lists n hn wB
  rw [s2] at m2
  generalize hZ : madeCells #[.slice none 0 0] n = Z at *
  have z2 : (wB.alloc (.cells Z 24)).heap[bd + 1]? = some (.cells Z 24) := by
    have := heap_alloc_new wB (.cells Z 24)
    rwa [s2] at this
  have s3 : (wB.alloc (.cells Z 24)).heap.size = bd + 2 := by simp [s2]
  have v2 := v1.alloc (.cells Z 24)
  have b2 : Below (bd + 1) wB (wB.alloc (.cells Z 24)) := (Below.refl _ _).alloc (by omega) _
  go_wp2
  generalize wB.alloc (.cells Z 24) = w2 at z2 s3 v2 b2 ⊢
  have v3 := one w2 (.slice (some ⟨bd + 1, 0, none⟩) n n) 23
  rw [s3] at v3
  have b3 := b2.alloc (by omega) (.cells #[.slice (some ⟨bd + 1, 0, none⟩) n n] 23)
  have z3 : (w2.alloc (.cells #[.slice (some ⟨bd + 1, 0, none⟩) n n] 23)).heap[bd + 1]? = some (.cells Z 24) := (Below.heap_alloc _ _ _ (by omega)).trans z2
  have v4 := v2.alloc (.cells #[.slice (some ⟨bd + 1, 0, none⟩) n n] 23)
  have s4 : (w2.alloc (.cells #[.slice (some ⟨bd + 1, 0, none⟩) n n] 23)).heap.size = bd + 3 := by simp [s3]
  generalize w2.alloc (.cells #[.slice (some ⟨bd + 1, 0, none⟩) n n] 23) = w3 at *
  have y3 := y1.of_block (b3.block bk (by omega))
  have l3 := hls.of_block (b3.block P (by omega))
  have f3 := hrw.of_block (b3.block F (by omega))
  refine hnext bk bd P F (bd + 2) (bd + 1) _ w3 (tpc_mk rfl) ⟨y3.cell (i := 0) (by omega), v4.cell (i := 0) (by omega), fun j hj => l3.cell hj, fun i hi => f3.cell hi, v3.cell (i := 0) (by omega), by rw [hZ]; exact z3, ⟨by omega, by omega, by omega, by omega, by omega, by omega⟩⟩ (fun b hb => by omega) ⟨by omega, by omega, by omega, by omega⟩ (bl1.trans (Bel.of b3) (by omega))
end

section
variable {k n L : Nat}
def pieceOf (F k L : Nat) (l : List UInt8) (j : Nat) : Col := ⟨some ⟨F, j * L, none⟩, F, j * L, k * L - j * L, (List.range L).map fun m => bAt l (j * L + m)⟩
def envK (k L : Nat) (l : List UInt8) (bk bd P F ba : Nat) (h0 : Nat → Option Obj) : EnvC := { ba := ba, bk := bk, bd := bd, bD := P, oD := 0, cD := k, cs := (List.range k).map (pieceOf F k L l), h0 := h0 }

set_option maxRecDepth 100000 in
set_option maxHeartbeats 4000000 in
theorem colfork_alloc {cs : List Frame} {bk bd ba : Nat} {T : Array Value} (W : World) (hT : TPc bk bd ba T) :
    ∃ T', (∀ E : EnvC, E.bk = bk → E.bd = bd → E.ba = ba → TB E W.heap.size T') ∧ Gets Tryz.prog (· = W.heap.size) (G ((base 53).at ⟨T, []⟩ [.code gc3]) cs) W (G ((base 53).at ⟨T', []⟩ [.code gTail]) cs) (W.alloc (wgBlock link.tWg 0 0)) := by
  obtain ⟨f, rfl⟩ := hT
  have noE : ∀ X w, EvsP X w #[] := fun _ _ _ he => by simp at he
  rw [gc3_eq]
  have key : ∀ (a : Act) (o : Oper) (u : Value) (W' : World), og3[0]? = some o → a.defers = [] → Region.wanted o (yielded og3 a.tmps) = true → (execOp a.eval o).run Tryz.prog W = .ok (.value u) W' → listed Tryz.prog 53 a o W = #[] → W.heap.size ≤ W'.heap.size →
      Gets Tryz.prog (· = W.heap.size) (G ((base 53).at a [.code (.seq (.region 3 og3 false) gTail)]) cs) W (G ((base 53).at (a.put o.dst u) [.code gTail]) cs) W' := by
    intro a o u W' ho ha hw hr hl hs
    refine .step rfl stepG_seq (noE _ _) (Nat.le_refl _) (.step rfl stepG_region (noE _ _) (Nat.le_refl _) ?_)
    rw [ng3]
    simp only [List.range, List.range.loop]
    refine .step rfl (stepG_value (b := base _) ho hw (by intro h; cases h) hr) (by rw [show (base 53).fn = 53 from rfl, hl]; exact noE _ _) hs ?_
    exact .step rfl stepG_region_end (noE _ _) (Nat.le_refl _) (.refl _ _)
  refine ⟨_, fun E h1 h2 h3 => ?_, key _ _ (.pointer (some ⟨W.heap.size, 0, none⟩)) _ (by simp only [og3, qg3]; rfl) rfl rfl (by go_simp; rfl) (listed_nil (by go_simp)) (by simp)⟩
  subst h1 h2 h3
  refine ⟨fun i => if i = 9 then undef else f i, ?_⟩
  rfl

theorem range_get {n i j : Nat} (h : (List.range n)[i]? = some j) : i < n ∧ j = i := by
  obtain ⟨h1, h2⟩ := List.getElem?_eq_some_iff.1 h
  simp at h1 h2
  exact ⟨h1, h2.symm⟩
theorem envK_ok {l : List UInt8} {bk bd P F ba : Nat} {h0 : Nat → Option Obj} (hk : 0 < k ∧ k ≤ 128) (hn : n ≤ 128) (hL : L ≤ 140737488355328) : EnvCOk (envK k L l bk bd P F ba h0) k n L := by
  refine ⟨hk.1, hk.2, hn, hL, by simp [envK], fun c hc => ?_⟩
  simp only [envK, List.mem_map] at hc
  obtain ⟨j, _, rfl⟩ := hc
  refine ⟨by simp [pieceOf, LenIs], fun y hy => ?_⟩
  simp only [pieceOf, List.mem_map] at hy
  obtain ⟨m, _, rfl⟩ := hy
  unfold bAt
  exact (l.getD _ 0).toNat_lt

theorem cell_alloc {W : World} {b o : Nat} {u : Value} (x : Obj) (h : W.cell? ⟨b, o, none⟩ = some u) : (W.alloc x).cell? ⟨b, o, none⟩ = some u := by
  have hb := cell_lt h
  simp only [World.cell?, Below.heap_alloc _ _ _ hb] at h ⊢
  exact h

theorem sim_blockX {X : Nat → Prop} {Y : Nat → Option Obj} {w v : World} {b : Nat} {c : Array Value} {t : TypeId} {fr : Nat × Nat} (h : Sim X Y w v) (hx : ¬ X b) (hb : v.heap[b]? = some (.cells c t fr)) : w.heap[b]? = some (.cells c t fr) := by
  cases hy : Y b with
  | none => rw [h.same b hx hy]; exact hb
  | some o =>
    obtain ⟨o', _, h2, hg⟩ := h.gho b _ hy
    rw [hb] at h2
    cases h2
    rcases hg with ⟨_, _, _, h4⟩ | ⟨_, _, _, h4⟩ <;> cases h4

theorem sfc_start [Payload] [OldG] (hpe : Payload.ety = 24) {X : Nat → Prop} {Y : Nat → Option Obj} {v3 W : World} {l : List UInt8} {lw bk bd P F ba C : Nat} (hold : ∀ b, OldG.old b → b < lw) (hX : ∀ b, X b → b < lw) (hge : lw ≤ bk ∧ lw ≤ bd ∧ lw ≤ P ∧ lw ≤ F) (hs : Sim X Y W v3) (hP : PFc k n L l bk bd P F ba C v3) {Wg : Nat} (hWg : W.heap.size = Wg + 1) (hba : ba < Wg) :
    SFc Wg C k n (Wg + 1) L (envK k L l bk bd P F ba (fun b => W.heap[b]?)) (Wg + 1) (gw W []) := by
  obtain ⟨n1, n2, n3, n4, n5, n6⟩ := hP.new
  have hsz := hs.size
  have st : ∀ {b o : Nat} {u : Value}, v3.cell? ⟨b, o, none⟩ = some u → (gw W []).cell? ⟨b, o, none⟩ = some u := fun {b o u} h => (show W.cell? ⟨b, o, none⟩ = some u from sim_cell hs h)
  have lo : ∀ {b : Nat}, b < Wg → b ≠ C → lw ≤ b → LoC Wg C (Wg + 1) b := fun {b} h h' hl => ⟨by omega, by omega, h', fun ho => by have := hold b ho; omega⟩
  have hsz1 : (gw W []).heap.size = Wg + 1 := hWg
  have hcs : ∀ {t : Nat} {c : Col}, ((List.range k).map (pieceOf F k L l))[t]? = some c → t < k ∧ c = pieceOf F k L l t := fun {t c} e => by
    rw [List.getElem?_map] at e
    obtain ⟨j', hj', rfl⟩ := Option.map_eq_some_iff.1 e
    obtain ⟨h1, rfl⟩ := range_get hj'
    exact ⟨h1, rfl⟩
  refine ⟨⟨?_, by omega, by omega, fun b hb => ?_⟩, ⟨madeCells #[.slice none 0 0] n, ?_, size_madeCells _ _⟩, ⟨lo (b := ba) (by omega) (by omega) (by omega), lo (b := bk) (by omega) (by omega) (by omega), lo (b := bd) (by omega) (by omega) (by omega), lo (b := P) (by omega) (by omega) (by omega), st hP.va, st hP.vk, st hP.vd, fun j c e => ?_, fun c hc => ?_, fun b _ _ _ => rfl⟩, ⟨by omega, by omega, by omega⟩⟩
  · unfold gw
    rw [tag_book]
    exact Nat.le_refl _
  · unfold gw at hb
    rw [own_book] at hb
    cases hb
  · rw [hpe]
    show W.heap[C]? = _
    exact sim_blockX hs (fun hx => by have := hX C hx; omega) hP.pay
  · obtain ⟨h1, rfl⟩ := hcs e
    simp only [envK, pieceOf, Nat.zero_add]
    exact st (hP.hP j h1)
  · simp only [envK, List.mem_map, List.mem_range] at hc
    obtain ⟨t, ht, rfl⟩ := hc
    refine ⟨lo (by show F < _; omega) (by show F ≠ C; omega) (by show lw ≤ F; omega), fun _ => rfl, fun i y e => ?_⟩
    simp only [pieceOf, List.getElem?_map] at e ⊢
    obtain ⟨j', hj', rfl⟩ := Option.map_eq_some_iff.1 e
    obtain ⟨h1, rfl⟩ := range_get hj'
    refine st (hP.hF _ ?_)
    have : t * L + L ≤ k * L := by rw [← Nat.succ_mul]; exact Nat.mul_le_mul_right L ht
    omega

theorem cell_up {W v : World} {X : Nat → Prop} {b o : Nat} {u : Value} (hk : ∀ b c t fr, ¬ X b → W.heap[b]? = some (.cells c t fr) → v.heap[b]? = some (.cells c t fr)) (hb : ¬ X b) (h : W.cell? ⟨b, o, none⟩ = some u) : v.cell? ⟨b, o, none⟩ = some u := by
  have h' := h
  unfold World.cell? at h'
  cases e : W.heap[b]? with
  | none => simp only [e] at h'; cases h'
  | some x =>
    cases x with
    | cells c t fr =>
      have := hk b c t fr hb e
      simp only [World.cell?, e] at h
      simp only [World.cell?, this]
      exact h
    | _ => simp only [e] at h'; cases h'

theorem sufc_of [Payload] [OldG] {X : Nat → Prop} {Y : Nat → Option Obj} {w2 v3 W W' v' : World} {s0 : Nat} {lb ids : List Nat} {l : List UInt8} {bk bd P F ba C : Nat} (hs : Sim X Y W v3) {Wg : Nat} (hWg : W.heap.size = Wg + 1) (hbaW : ba < Wg) (hb : Bel w2.heap.size w2 v3) (hlow : ∀ b, b < w2.heap.size → b < C) (hP : PFc k n L l bk bd P F ba C v3)
    (hk : ∀ b c t fr, ¬ (X b ∨ b = Wg) → W'.heap[b]? = some (.cells c t fr) → v'.heap[b]? = some (.cells c t fr)) (hX : ∀ b, X b → b < w2.heap.size)
    (hF : SFc Wg C k n (Wg + 1) L (envK k L l bk bd P F ba (fun b => W.heap[b]?)) s0 (gw W' lb)) (hids : ∀ x, x ∈ ids ↔ x < n)
    (hres : ∀ x ∈ ids, ∃ v l', Has C x v W' ∧ WPr C L ((envK k L l bk bd P F ba (fun b => W.heap[b]?)).res k L) x v (gw W' l') ∧ ∀ b ∈ l', Wg + 1 ≤ b) :
    (∃ dN : Nat → Nat, ∀ t, t < n → v'.cell? ⟨C, t, none⟩ = some (.slice (some ⟨dN t, 0, none⟩) L L) ∧ v'.heap[dN t]? = some (.cells (bytesA ((envK k L l bk bd P F ba (fun b => W.heap[b]?)).res k L t)) 5)) ∧ (∀ {b o : Nat} {u : Value}, w2.cell? ⟨b, o, none⟩ = some u → v'.cell? ⟨b, o, none⟩ = some u) ∧ v'.cell? ⟨ba, 0, none⟩ = some (.slice (some ⟨C, 0, none⟩) n n) := by
  obtain ⟨n1, n2, n3, n4, n5, n6⟩ := hP.new
  have hsz := hs.size
  have up : ∀ {b o : Nat} {u : Value}, ¬ X b → b ≠ Wg → W'.cell? ⟨b, o, none⟩ = some u → v'.cell? ⟨b, o, none⟩ = some u := fun hx hb h => cell_up (X := fun b => X b ∨ b = Wg) hk (fun e => e.elim hx hb) h
  have lw : ∀ {b o : Nat} {u : Value}, b < Wg → b ≠ C → v3.cell? ⟨b, o, none⟩ = some u → v'.cell? ⟨b, o, none⟩ = some u := fun {b o u} h h' hc => by
    refine up (hs.notX hc).1 (by omega) ?_
    have e1 : W'.heap[b]? = W.heap[b]? := hF.low.std b (by omega) (by omega) h'
    have e2 := sim_cell hs hc
    simp only [World.cell?, e1] at e2 ⊢
    exact e2
  have l2 : ∀ {b o : Nat} {u : Value}, w2.cell? ⟨b, o, none⟩ = some u → v'.cell? ⟨b, o, none⟩ = some u := fun {b o u} hc => by
    have h1 : b < w2.heap.size := cell_lt hc
    have h2 := hlow _ h1
    exact lw (by have := hb.size'; omega) (by omega) ((Below.cell (p := ⟨b, o, none⟩) hb h1).trans hc)
  have hmem : ∀ t, t < n → ∃ N', v'.cell? ⟨C, t, none⟩ = some (.slice (some ⟨N', 0, none⟩) L L) ∧ v'.heap[N']? = some (.cells (bytesA ((envK k L l bk bd P F ba (fun b => W.heap[b]?)).res k L t)) 5) := by
    intro t ht
    obtain ⟨v, l', h1, ⟨N', rfl, hmn, _, h2⟩, hl'⟩ := hres t ((hids t).2 ht)
    have hN' := hl' N' ((mine_gw W' l' N').1 hmn)
    refine ⟨N', up (fun hx => by have := hX C hx; have := hlow C this; omega) (by omega) h1, hk N' _ _ _ (fun e => ?_) h2⟩
    have e := e.resolve_left (fun hx => by have := hX N' hx; have := hlow N' this; omega)
    omega
  refine ⟨⟨fun t => if h : t < n then (hmem t h).choose else 0, fun t ht => ?_⟩, l2, lw (by omega) (by omega) hP.va⟩
  simp only [dif_pos ht]
  exact (hmem t ht).choose_spec
end

/-- What was there stands. -/
structure Kept (w w' : World) : Prop where
  os : w'.os = w.os
  output : w'.output = w.output
  size : w.heap.size ≤ w'.heap.size
  block : ∀ b, b < w.heap.size → w'.heap[b]? = w.heap[b]?
theorem Sim.agree {X : Nat → Prop} {Y : Nat → Option Obj} {w w' v v' : World} (h : Sim X Y w v) (h' : Sim X Y w' v') {b : Nat} (hx : ¬ X b) (e : v'.heap[b]? = v.heap[b]?) : w'.heap[b]? = w.heap[b]? := by
  cases hy : Y b with
  | none => rw [h.same b hx hy, h'.same b hx hy, e]
  | some o =>
    obtain ⟨_, h1, _⟩ := h.gho b o hy
    obtain ⟨_, h2, _⟩ := h'.gho b o hy
    rw [h1, h2]
theorem no_ev {Wg : Nat} (w : World) (es : Array Event) (h : EvsP (fun b => some b = some Wg) w es) : ∀ e ∈ es, EvM (ShN Wg) e := by
  intro e he
  rcases h e he with ⟨a, wr, rfl, _, h3⟩ | ⟨r, wr, sy, rfl, _, _⟩ | ⟨m0, hm0, rfl⟩
  · refine ⟨fun x hx hs => ?_, by simp, by simp⟩
    simp only [MemAct.ofEvent, MemAct.touch?, Option.some.injEq] at hx
    subst hx
    obtain ⟨a', h4, h5⟩ := hs
    cases h4
    exact absurd (congrArg some h5) h3
  · refine ⟨fun x hx hs => ?_, by simp, by simp⟩
    obtain ⟨a', h4, _⟩ := hs
    cases wr <;> cases sy <;> simp only [MemAct.ofEvent, MemAct.touch?, Option.some.injEq, reduceCtorEq] at hx <;> (subst hx; cases h4)
  · rcases hm0 with rfl | ⟨_, rfl⟩ <;> exact ⟨fun x hx => by simp [MemAct.ofEvent, MemAct.touch?] at hx, by simp, by simp⟩

section
variable {P : Program} {F : FuncId → Bool} {X : Nat → Prop} {Y : Nat → Option Obj} {D : Nat → World → Array Event → Prop} {Stop : Goroutine → World → Prop} {f : FuncId} {k : List Item} {cs : List Frame} {a : Act} {v : World} {ops : Array Oper} {i : Nat} {rest : List Nat} {o : Oper}
theorem reaI_tape (τ : Nat → Question → Nat) (d : Nat) (h : ReaI P X Y D Stop f cs k a v) : ReaI P X Y D Stop f cs k a { v with tape := τ, drawn := d } := fun w ⟨τ0, d0, hs⟩ => h w ⟨τ0, d0, hs⟩
theorem reaI_op0 (hF : GoodF P F) (hD : Dok X D) (u : Value) (ho : ops[i]? = some o) (hw : Region.wanted o (yielded ops a.tmps) = true) (hok : okOp P F o = true) (hrun : ∀ z : World, (execOp a.eval o).run P z = .ok (.value u) z) (h : ReaI P X Y D Stop f cs (.inRegion ops rest :: k) (a.put o.dst u) v) : ReaI P X Y D Stop f cs (.inRegion ops (i :: rest) :: k) a v :=
  reaI_op hF hD ho hw hok fun τ d => ⟨_, hrun _, reaI_tape τ d h⟩
end

section
variable {X : Nat → Prop} {Y : Nat → Option Obj} {D : Nat → World → Array Event → Prop} {Stop : Goroutine → World → Prop} {v : World} {n C Wg j : Nat} {E : EnvC} {cs : List Frame} {f : Frame}
set_option maxHeartbeats 8000000 in
set_option maxRecDepth 100000 in
theorem backC (hD : Dok X D) {T : Array Value} {ops : Array Oper} (hT : TC E Wg n j T) (hba : v.cell? ⟨E.ba, 0, none⟩ = some (.slice (some ⟨C, 0, none⟩) n n))
    (hend : ∀ τ d, ∀ w, SimT X Y w { v with tape := τ, drawn := d } → GoesI Tryz.prog D Stop (G (f.finish (.slice (some ⟨C, 0, none⟩) n n)) cs) w) :
    ReaI Tryz.prog X Y D Stop 53 (f :: cs) (.inRegion ops [] :: [.code gEnd2]) ⟨T, []⟩ v := by
  have hD0 : Dok X D := hD
  obtain ⟨f0, rfl⟩ := hT
  refine reaI_end hD0 ?_
  unfold gEnd2
  simp only [og11, qg11]
  refine reachI_go goodF hD (by kernel_rfl) rfl sfC fun R hR τ d' => ?_
  have hb1 : ({ v with tape := τ, drawn := d' } : World).cell? ⟨E.ba, 0, none⟩ = some (.slice (some ⟨C, 0, none⟩) n n) := hba
  have hv1 := hend τ d'
  generalize { v with tape := τ, drawn := d' } = v1 at hb1 hv1 ⊢
  go_wp2
  refine reaI_ret (y := .slice (some ⟨C, 0, none⟩) n n) hD rfl Tryz.func53 (fun τ d => ?_) hv1
  exact results_tmp (fn := Tryz.f53) (t := 6) rfl _ _ _
end
end Go.Proofs.YtlghjjennhpjeaaGreatDoor

/-
  A column in pieces: what slices.Chunk hands out.
-/
namespace Go.Proofs.YtlghjjennhpjeaaGreatDoor
open Go.RowKit Go.Deep Go.Shelf

attribute [local go_sem] Oper.semAt_some

/-- What a round keeps: what lies below n₀, and two boxes. -/
structure KpC (n₀ sb nb : Nat) (A B : World) : Prop where
  below : Below n₀ A B
  s : B.heap[sb]? = A.heap[sb]?
  n : B.heap[nb]? = A.heap[nb]?
theorem KpC.trans {n₀ sb nb : Nat} {A B C : World} (h : KpC n₀ sb nb A B) (k : KpC n₀ sb nb B C) : KpC n₀ sb nb A C := ⟨h.below.trans k.below, k.s.trans h.s, k.n.trans h.n⟩
/-- Frame k of a row of bytes, as a slice. -/
def frameV (b off len c k : Nat) : Value := .slice (some ⟨b, off + k * c, none⟩) (min c (len - k * c)) (min c (len - k * c))
abbrev FrK (c len : Nat) := { k : Nat // k * c < len }

end Go.Proofs.YtlghjjennhpjeaaGreatDoor

/-
  What the program's layout.Write leaves.
-/
namespace Go.Proofs.YtlghjjennhpjeaaGreatDoor
open Go.RowKit Go.Deep Go.Shelf

attribute [local go_sem] Oper.semAt_some

/-- 'append(list, text...)' in a fence. -/
theorem wpListIn_append_string {F : Fence} {n : Nat} {P : Program} (w : World) {ops : Array Oper} {rest : List Oper} {o : Oper} {a : Act} {Q : Exit → Act → World → Prop} (hg : o.guard = none) (sl x : Operand) (t u : TypeId)
    (hop : o.op = .call { callee := .builtin .append, args := #[sl, x], argTypes := #[t, u] })
    (base : Nat) (e : TypeId) (i : TypeInfo) (ht : P.underlying t = some (.slice e)) (hu : P.underlying u = some .string) (hi : P.info? e = some i) (hz : i.zero = some (.int .u8 0)) (hsize : i.size = 1) (hby : i.bytes = 1)
    (v : Value) (k : Nat) (xs : List Value) (hs : a.eval sl = v) (hown : w.ownsRow base e 1 v k xs) (s : ByteArray) (hx : a.eval x = .string s) (b1 : k + s.size ≤ maxLen) (b2 : k + s.size ≤ 140737488355328) (b3 : base ≤ w.heap.size)
    (hK : ∀ v' w', w'.ownsRow base e 1 v' (k + s.size) (xs ++ Lib.strCells s) → w.grownBy w' v.ownBlock → wpListIn F n P ops Q rest (a.put o.dst v') w') :
    wpListIn F n P ops Q (o :: rest) a w := by
  refine wpListIn_plain hg fun K hK' => ?_
  obtain ⟨v', w', hrun, r1, r2, _⟩ := Lib.run_append_own_string (P := P) w base t u o.type e i ht hu hi hz hsize hby v k xs hown s b1 b2 b3
  unfold Oper.wpIn
  refine ⟨?_, ?_⟩
  · simp [Oper.about, hop, resolve, Target.leads, Sem.run_pure]
  · rw [Oper.semAt_plain F _ _ (by rw [hop]; intro c hc'; cases hc')]
    simp [execOp, hop, resolve, invoke, builtin, hs, hx, hrun, Result.andThen]
    exact hK' _ _ (hK v' w' r1 r2)

theorem OwnB.set {B lb : Nat} {w : World} {v u : Value} {l : List UInt8} (h : OwnB B w v l) (hL : Boxed w lb 24 u) (v' : Value) : OwnB B (w.setCell ⟨lb, 0, none⟩ v') v l :=
  World.ownsRow.kept h (grownBy_setCell' w lb v') (.inr (hL.not_row (by decide) h).symm)
theorem RowAt.setO {w : World} {b lb : Nat} {cs : List Value} {t : TypeId} (h : RowAt w b cs t) (hne : b ≠ lb) (v : Value) : RowAt (w.setCell ⟨lb, 0, none⟩ v) b cs t :=
  (Below.heap_setCell _ _ _ b hne).trans h

/-- The list as far as these frames have come. -/
def LL (M : List UInt8) (c : Nat) (col : List UInt8) {len : Nat} (pre : List (FrK c len)) : List UInt8 := M ++ pre.flatMap fun x => frameB c col x.1
theorem LL_snoc (M : List UInt8) (c : Nat) (col : List UInt8) {len : Nat} (pre : List (FrK c len)) (x : FrK c len) : LL M c col (pre ++ [x]) = LL M c col pre ++ frameB c col x.1 := by simp [LL, List.append_assoc]
theorem LL_all (M : List UInt8) (c : Nat) (col : List UInt8) {len : Nat} (pre : List (FrK c len)) (n : Nat) (h : pre.map Subtype.val = List.range n) : LL M c col pre = M ++ framesTo c col n := by
  unfold LL framesTo
  rw [← h, List.flatMap_map]

theorem frameB_length (c : Nat) (col : List UInt8) (k : Nat) : (frameB c col k).length ≤ c + 8 := by
  unfold frameB
  rw [sealB_length]
  have : (part col (k * c) (min c (col.length - k * c))).length ≤ min c (col.length - k * c) := by unfold part; exact List.length_take_le _ _
  omega
theorem LL_length (M : List UInt8) (c : Nat) (col : List UInt8) {len : Nat} : ∀ pre : List (FrK c len), (LL M c col pre).length ≤ M.length + pre.length * (c + 8)
  | [] => by simp [LL]
  | x :: pre => by
    have h1 := LL_length M c col pre
    have h2 := frameB_length c col x.1
    simp only [LL, List.flatMap_cons, List.length_append, List.length_cons] at h1 ⊢
    rw [Nat.add_mul, Nat.one_mul]
    omega
theorem KeepT.others {a b : World} (h : KeepT a b) : KeepsOthers a b := ⟨h.size, fun k o hk ho => h.same k o hk (by cases o <;> simp_all [noBytes, Obj.isCells])⟩

end Go.Proofs.YtlghjjennhpjeaaGreatDoor

/-
  slices.Chunk beside goroutines that leave: what it makes.
-/
namespace Go.Proofs.YtlghjjennhpjeaaGreatDoor
open Go.RowKit Go.Deep Go.Lf Go.Conc

def gRd : Code → Code
  | .rangeFunc _ _ _ c => c
  | c => c
def gAs : Code → Code
  | .rangeFunc _ _ c _ => c
  | c => c

section
variable {X : Nat → Prop} {Y : Nat → Option Obj} {D : Nat → World → Array Event → Prop} {Stop : Goroutine → World → Prop} {v : World} {cs : List Frame} {cfr : Frame}
end
end Go.Proofs.YtlghjjennhpjeaaGreatDoor

/-
  A column in pieces: what slices.Chunk hands out.
-/
import Derived.Test.YtkpcmfgeanlcnabGreatDoorWrG
import Derived.RangeFuncBox
import Derived.RangeFuncLeaves
import Derived.RangeFuncCalls
import Derived.Shelf.Abstract
import Derived.WalkKit
import Derived.OwnWalkIn
import Derived.TacticsInMore
import Derived.LoopNIn
import Derived.LoopIn
import Derived.RegionIn
import Derived.Sort.QuietIn
import Derived.Test.YtkpcmfgeanlcnabGreatDoorSmB
import Derived.RangeFuncNested
import Derived.Test.YtkpcmfgeanlcnabGreatDoorLfO
import Derived.Test.YtkpcmfgeanlcnabGreatDoorEnB
namespace Go.Proofs.YtkpcmfgeanlcnabGreatDoor
open Go.RowKit Go.Deep Go.Shelf
attribute [local go_sem] Oper.semAt_some
structure KpC (n₀ sb nb:Nat) (A B:World):Prop where
  below:Below n₀ A B
  s:B.heap[sb]? = A.heap[sb]?
  n:B.heap[nb]? = A.heap[nb]?
def frameV (b off len c k:Nat):Value:=.slice (some ⟨b,off+k*c,none⟩) (min c (len - k*c)) (min c (len - k*c))
abbrev FrK (c len:Nat):={ k:Nat // k*c < len }
end Go.Proofs.YtkpcmfgeanlcnabGreatDoor
namespace Go.Proofs.YtkpcmfgeanlcnabGreatDoor
open Go.RowKit Go.Deep Go.Shelf
attribute [local go_sem] Oper.semAt_some
theorem OwnB.set {B lb:Nat} {w:World} {v u:Value} {l:List UInt8} (h:OwnB B w v l) (hL:Boxed w lb 33 u) (v':Value):OwnB B (w.setCell ⟨lb,0,none⟩ v') v l:=
  World.ownsRow.kept h (grownBy_setCell' w lb v') (.inr (hL.not_row (by decide) h).symm)
theorem RowAt.setO {w:World} {b lb:Nat} {cs:List Value} {t:TypeId} (h:RowAt w b cs t) (hne:b≠lb) (v:Value):RowAt (w.setCell ⟨lb,0,none⟩ v) b cs t:=
  (Below.heap_setCell _ _ _ b hne).trans h
def LL (M:List UInt8) (c:Nat) (col:List UInt8) {len:Nat} (pre:List (FrK c len)):List UInt8:=M++pre.flatMap fun x=>frameB c col x.1
theorem LL_all (M:List UInt8) (c:Nat) (col:List UInt8) {len:Nat} (pre:List (FrK c len)) (n:Nat) (h:pre.map Subtype.val=List.range n):LL M c col pre=M++framesTo c col n:=by
  unfold LL framesTo
  rw [← h,List.flatMap_map]
theorem frameB_length (c:Nat) (col:List UInt8) (k:Nat):(frameB c col k).length≤c+8:=by
  unfold frameB
  rw [sealB_length]
  have:(part col (k*c) (min c (col.length - k*c))).length≤min c (col.length - k*c):=by unfold part;exact List.length_take_le _ _
  omega
theorem LL_length (M:List UInt8) (c:Nat) (col:List UInt8) {len:Nat}:∀ pre:List (FrK c len),(LL M c col pre).length≤M.length+pre.length*(c+8)
  | []=>by simp [LL]
  | x :: pre=>by
    have h1:=LL_length M c col pre
    have h2:=frameB_length c col x.1
    simp only [LL,List.flatMap_cons,List.length_append,List.length_cons] at h1 ⊢
    rw [Nat.add_mul,Nat.one_mul]
    omega
end Go.Proofs.YtkpcmfgeanlcnabGreatDoor
namespace Go.Proofs.YtkpcmfgeanlcnabGreatDoor
open Go.RowKit Go.Deep Go.Lf Go.Conc
def gRd:Code→Code
  | .rangeFunc _ _ _ c=>c
  | c=>c
def gAs:Code→Code
  | .rangeFunc _ _ c _=>c
  | c=>c
section
variable {X:Nat→Prop} {Y:Nat→Option Obj} {D:Nat→World→Array Event→Prop} {Stop:Goroutine→World→Prop} {v:World} {cs:List Frame} {cfr:Frame}
noncomputable def hBody:Code:=Tryz.f48.body.getD .skip
theorem sfH:∃ fn,Tryz.prog.funcs[48]? = some fn:=⟨_,Tryz.func48⟩
set_option maxHeartbeats 4000000 in
set_option maxRecDepth 100000 in
theorem chunkI (hD:Dok X D) (ba:Option Addr) (len cap c:Nat) (hc:1≤c)
    (hnext:∀ w,SimT X Y w ((v.alloc (.cells #[.slice ba len cap] 33)).alloc (.cells #[.int .i64 (c:Int)] 3))→GoesI Tryz.prog D Stop (G (cfr.finish (.func (.func 71) #[] #[.pointer (some ⟨v.heap.size,0,none⟩),.pointer (some ⟨v.heap.size+1,0,none⟩)])) cs) w) :
    ReaR Tryz.prog X Y D Stop none [] 48 (cfr :: cs) [.code hBody] (#[.slice ba len cap,.int .i64 (c:Int)]++Array.replicate 7 undef) v:=by
  unfold hBody
  simp only [Tryz.f48,Option.getD_some,Array.replicate_succ,Array.replicate_zero,List.push_toArray,List.append_toArray,List.nil_append,List.cons_append]
  refine reaR_split hD (reaR_go goodF hD (by kernel_rfl) sfH fun R hR τ d => ?_)
  go_wp2
  change ReaR _ _ _ _ _ _ _ _ _ _ _ ((v.alloc (.cells #[.slice ba len cap] 33)).alloc (.cells #[.int .i64 (c:Int)] 3))
  have hN:((v.alloc (.cells #[.slice ba len cap] 33)).alloc (.cells #[.int .i64 (c:Int)] 3)).cell? ⟨v.heap.size+1,0,none⟩=some (.int .i64 (c:Int)):=by
    have:=(Boxed.new (v.alloc (.cells #[.slice ba len cap] 33)) 3 (.int .i64 (c:Int))).cell
    rw [World.size_alloc] at this
    exact this
  generalize (v.alloc (.cells #[.slice ba len cap] 33)).alloc (.cells #[.int .i64 (c:Int)] 3)=W at hN hnext ⊢
  have hnc:¬ ((c:Int) < 1):=by omega
  refine reaR_split hD (reaR_split hD (reaR_go goodF hD (by kernel_rfl) sfH fun R hR τ d => ?_))
  have cN:({ W with tape:=τ,drawn:=d }:World).cell? ⟨v.heap.size+1,0,none⟩=some (.int .i64 (c:Int)):=hN
  go_wp2
  change ReaR _ _ _ _ _ _ _ _ _ _ _ W
  refine reaR_cond (b:=false) hD (by simp) (reaR_skip hD (reaR_split hD (reaR_go goodF hD (by kernel_rfl) sfH fun R hR τ d => ?_)))
  go_wp2
  change ReaR _ _ _ _ _ _ _ _ _ _ _ W
  refine reaI_ret (a:=⟨_,[]⟩) hD rfl Tryz.func48 (fun τ d=>results_tmp (fn:=Tryz.f48) (t:=4) rfl _ _ _) ?_
  exact hnext
end
end Go.Proofs.YtkpcmfgeanlcnabGreatDoor

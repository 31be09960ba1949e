/-
  The functions that are run alone ahead of the fork and behind the join: their code is tame.
-/
import Derived.Test.YtkpcmfgeanlcnaaLfJ
import Derived.Test.YtkpcmfgeanlcnaaProg
import Derived.KernelRfl
namespace Go.Proofs.Ytkpcmfgeanlcnaa
open Go.Lf

def tameL : List FuncId := [14, 15, 16, 17, 19, 20, 28, 29, 30, 32, 34, 35, 36, 43, 44, 45, 59, 65, 8, 22, 21, 23, 24, 25, 26, 27, 33, 9, 11]
def tame (f : FuncId) : Bool := tameL.contains f

noncomputable def goodOne (f : FuncId) : Bool := match Try.prog.funcs[f]? with
  | none => false
  | some fn => !(fn.name == "runtime.NumGoroutine") && match fn.body with
    | none => false
    | some c => okCode Try.prog tame c
theorem goodL : tameL.all goodOne = true := by kernel_rfl
theorem goodF : GoodF Try.prog tame := by
  intro f hf
  have h := List.all_eq_true.1 goodL f (by simpa [tame] using hf)
  unfold goodOne at h
  split at h
  · cases h
  · rename_i fn hfn
    rw [Bool.and_eq_true] at h
    obtain ⟨h1, h2⟩ := h
    split at h2
    · cases h2
    · rename_i c hc
      exact ⟨fn, c, hfn, by simpa using h1, hc, h2⟩
end Go.Proofs.Ytkpcmfgeanlcnaa

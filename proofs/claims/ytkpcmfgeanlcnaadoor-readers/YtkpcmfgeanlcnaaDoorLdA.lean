/-
  What the rows' condition says of the six variables.
-/
import Derived.Test.YtkpcmfgeanlcnaaDoorRows
import Derived.Test.YtkpcmfgeanlcnaaDoorErD
import Derived.Test.YtkpcmfgeanlcnaaDoorPrJ
import Derived.LaidMore
import Derived.LaidSub
import Derived.LaidHandle
import Derived.Lib.LaidTab
import Derived.Stop.LaidErr
namespace Go.Proofs.YtkpcmfgeanlcnaaDoor
open Go.RowKit

theorem gFour : Tryd.prog.globalNamed "cairn/sum.fourSteps" = some 0 := by kernel_rfl
theorem tFour : (Tryd.prog.globals[0]?).map (·.type) = some 80 := by kernel_rfl
theorem gPow : Tryd.prog.globalNamed "internal/strconv.uint64pow10" = some 3 := by kernel_rfl
theorem tPow : (Tryd.prog.globals[3]?).map (·.type) = some 239 := by kernel_rfl
theorem gEarly : Tryd.prog.globalNamed "cairn/fault.TooEarly" = some 1 := by kernel_rfl
theorem tEarly : (Tryd.prog.globals[1]?).map (·.type) = some 76 := by kernel_rfl
theorem gErrT : Tryd.prog.globalNamed "errors.errorType" = some 2 := by kernel_rfl
theorem star : "*" ++ "errors.errorString" = "*errors.errorString" := by decide
theorem rowErrS (u : TypeId) (h : Tryd.prog.typeName? 3 u = some "*errors.errorString") : u = 246 :=
  typeName_ptr_named (nm := "errors.errorString") (by rw [star]; kernel_rfl) (by kernel_rfl) (by decide) u (by rw [star]; exact h)
theorem rtRow : (Tryd.prog.cutTypes.find? (·.1 == "internal/reflectlite.rtype")).map (·.2) = some 169 := by kernel_rfl
theorem nTypes : Tryd.prog.types.size = 277 := by kernel_rfl
theorem oneError : ((List.range 277).filter fun t => Tryd.prog.rowNamed t [101, 114, 114, 111, 114]) = [76] := by kernel_rfl

theorem laid_one {L : List (String × DataW Unit)} {W : World} (h : laidMetH Tryd.prog L W) (n : String) (d : DataW Unit) (hf : L.filter (fun x => x.1 == n) = [(n, d)]) (hn : d.handleName?.isNone = true) : laidMet Tryd.prog [(n, d)] W := by
  have := h.filter (fun x => x.1 == n)
  rw [hf] at this
  rwa [MakeChecks.laidMetH_plain _ _ _ (by simp [hn])] at this

theorem tab_laid {W : World} (h : laidMetH Tryd.prog Rows.parsesRow.laid W) : Tab W := by
  have h1 := laid_one h "cairn/sum.fourSteps" Rows.laid_cairn_sum_fourSteps (by rfl) (by rfl)
  have hT : Lib.TabIs Tryd.prog W "cairn/sum.fourSteps" .u64 (crcTab.map fun (n : Nat) => (n : Int)) :=
    Lib.tabIs_of_head gFour tFour Tryd.underlying80 Tryd.underlying22 (by kernel_rfl) (by kernel_rfl) h1
  have hc : ∀ i, i < 16 → W.cell? ⟨0, i, none⟩ = some (.int .u64 ((crcTab.getD i 0 : Nat) : Int)) := by
    intro i hi
    have := hT.cell gFour i (by simpa [crcTab] using hi)
    rw [this]
    simp only [List.getD_eq_getElem?_getD, List.getElem?_map]
    cases crcTab[i]? <;> simp
  exact ⟨cell_lt (hc 0 (by omega)), hc⟩
theorem pow_laid {W : World} (h : laidMetH Tryd.prog Rows.parsesRow.laid W) : Pow W ∧ 3 < W.heap.size := by
  have h1 := laid_one h "internal/strconv.uint64pow10" Rows.laid_internal_strconv_uint64pow10 (by rfl) (by rfl)
  have hT : Pow W := Lib.tabIs_of_head gPow tPow Tryd.underlying239 Tryd.underlying22 (by kernel_rfl) (by kernel_rfl) h1
  exact ⟨hT, cell_lt (Lib.TabIs.cell hT gPow 0 (by decide))⟩
theorem early_laid {W : World} (h : laidMetH Tryd.prog Rows.parsesRow.laid W) : ∃ a, Early W a := by
  have h1 := laid_one h "cairn/fault.TooEarly" Rows.laid_cairn_fault_TooEarly (by rfl) (by rfl)
  obtain ⟨a, s, hv, _⟩ := laid_sentinel h1 gEarly tEarly Tryd.underlying76 rowErrS Tryd.underlying246 Tryd.underlying266 rfl rfl Tryd.underlying9 (by kernel_rfl) (by kernel_rfl)
  exact ⟨a, by unfold Early; simpa using World.var?_cell gEarly hv 0⟩
theorem errT_laid {W : World} (h : laidMetH Tryd.prog Rows.parsesRow.laid W) : ErrT W := by
  have h' := (laidMetH_iff.1 h).2
  obtain ⟨name, u, ty, e1, e2, e3, e4, e5⟩ := h' ("errors.errorType", Rows.laid_errors_errorType) (List.mem_filter.2 ⟨by simp [Rows.parsesRow], rfl⟩)
  have en : name = [101, 114, 114, 111, 114] := (Option.some.inj e1).symm
  subst en
  obtain rfl := Option.some.inj (rtRow.symm.trans e2)
  have hm : ty ∈ (List.range 277).filter fun t => Tryd.prog.rowNamed t [101, 114, 114, 111, 114] := List.mem_filter.2 ⟨List.mem_range.2 (by rw [← nTypes]; exact e3), e4⟩
  rw [oneError] at hm
  obtain rfl := List.mem_singleton.1 hm
  have hh : typeHandle Tryd.prog 76 = .pointer (some ⟨6, 76, none⟩) := by kernel_rfl
  rw [hh] at e5
  unfold ErrT
  simpa using World.var?_cell gErrT e5 0
end Go.Proofs.YtkpcmfgeanlcnaaDoor

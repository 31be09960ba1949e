/-
  A run that starts no goroutine.
-/
import Derived.Test.YtkpcmfgeanlcnaaLfK
import Derived.Handed
import Derived.Leaving
namespace Go.Lf
open Go.Conc

theorem ok_of_calls {P : Program} {f : FuncId} {args : Array Value} {w : World} {Post : Value → World → Prop} (noInit : P.inits.idxOf? f = none) (h : Calls P f args w fun e w' => ∃ v, e = .returned v ∧ Post v w') : Ok P Post (solo (G (Frame.enter P f args .normal) []) w) #[] := by
  obtain ⟨n, v, w', fr, hn, hend, hp⟩ := (h.mono (R' := fun | .returned v, w' => Post v w' | _, _ => False) (by
    rintro e w' ⟨v, rfl, hp⟩
    exact hp)).done_lone noInit
  have h2 : runN P n (solo (G (Frame.enter P f args .normal) []) w) = .next (lone fr [] w') := hn
  have h3 : runN P (n + 1) (solo (G (Frame.enter P f args .normal) []) w) = .ended (.done v) w' := hend
  refine ⟨n, lone fr [] w', .done v, w', (runNT P (n + 1) (solo (G (Frame.enter P f args .normal) []) w) #[]).2, ?_, h2, step_of_runs h2 h3, v, rfl, hp, fun said => (no_race_of_lone P n _ _ h2 (by simp [lone]) rfl).2, handedOver_of_lone h2, onlyLeaving_of_quiet (quiet_lone _ _ _), (alone_of_lone (w' := w') h2).2.2⟩
  exact Prod.ext (by rw [runNT_fst, h3]) rfl
end Go.Lf

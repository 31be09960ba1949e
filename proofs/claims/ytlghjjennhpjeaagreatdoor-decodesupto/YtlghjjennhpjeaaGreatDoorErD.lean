/-
  What errors.As finds in a fault that is wrapped at most twice: the facts on types.
  What errors.As finds in a fault that is wrapped at most twice.
  What errors.As and the program's 'answer' tell of a wrapped fault.
-/
import Derived.Test.YtlghjjennhpjeaaGreatDoorErA
import Derived.BigQuiet
namespace Go.Proofs.YtlghjjennhpjeaaGreatDoor
open Go.RowKit Go.Extern.Stop Go.Stop Go.Extern

theorem callValueOfPP (t : Addr) (w : World) : (callFunc 56 #[.iface 76 (.pointer (some t))]).run Tryz.prog w
    = .ok (.value (.agg #[.pointer (some ⟨7, 76, none⟩), .pointer (some ⟨w.heap.size, 0, none⟩), .int .u64 150])) (w.alloc (.cells #[.pointer (some t)] 76)) := by kernel_rfl
theorem callValueOfP (t : Addr) (w : World) : (callFunc 56 #[.iface 74 (.pointer (some t))]).run Tryz.prog w
    = .ok (.value (.agg #[.pointer (some ⟨7, 74, none⟩), .pointer (some ⟨w.heap.size, 0, none⟩), .int .u64 150])) (w.alloc (.cells #[.pointer (some t)] 74)) := by kernel_rfl
theorem callTypePP (a : Addr) (w : World) : (callFunc 57 #[.agg #[.pointer (some ⟨7, 76, none⟩), .pointer (some a), .int .u64 150]]).run Tryz.prog w
    = .ok (.value (.iface 163 (.agg #[.pointer (some ⟨7, 76, none⟩)]))) w := by kernel_rfl
theorem callElemPP (w : World) : (callFunc 185 #[.agg #[.pointer (some ⟨7, 76, none⟩)]]).run Tryz.prog w = .ok (.value (.iface 163 (.agg #[.pointer (some ⟨7, 74, none⟩)]))) w := by kernel_rfl
theorem callImplements (w : World) : (callFunc 186 #[.agg #[.pointer (some ⟨7, 74, none⟩)], .iface 163 (.agg #[.pointer (some ⟨7, 45, none⟩)])]).run Tryz.prog w = .ok (.value (.bool true)) w := by kernel_rfl
theorem callTypeOfP (v : Value) (w : World) : (callFunc 67 #[.iface 74 v]).run Tryz.prog w = .ok (.value (.iface 163 (.agg #[.pointer (some ⟨7, 74, none⟩)]))) w := by kernel_rfl
theorem callTypeOfW (v : Value) (w : World) : (callFunc 67 #[.iface 116 v]).run Tryz.prog w = .ok (.value (.iface 163 (.agg #[.pointer (some ⟨7, 116, none⟩)]))) w := by kernel_rfl
theorem callAssignP (w : World) : (callFunc 183 #[.agg #[.pointer (some ⟨7, 74, none⟩)], .iface 163 (.agg #[.pointer (some ⟨7, 74, none⟩)])]).run Tryz.prog w = .ok (.value (.bool true)) w := by kernel_rfl
theorem callAssignW (w : World) : (callFunc 183 #[.agg #[.pointer (some ⟨7, 116, none⟩)], .iface 163 (.agg #[.pointer (some ⟨7, 74, none⟩)])]).run Tryz.prog w = .ok (.value (.bool false)) w := by kernel_rfl
theorem noAsW (v : Value) (xT : TypeId) (w : World) : (Instr.typeAssert (.iface 116 v) xT 167 true).run Tryz.prog w = .ok (.tuple #[.nilIface, .bool false]) w := run_typeAssert_lacksB Tryz.underlying167 (by kernel_rfl) (by kernel_rfl) v xT w

theorem partsPP (a : Addr) (w : World) : (ReflectliteValue.parts (.agg #[.pointer (some ⟨7, 76, none⟩), .pointer (some a), .int .u64 150])).run Tryz.prog w = .ok (some (76, a, 150)) w := by kernel_rfl
theorem partsPa (a : Addr) (w : World) : (ReflectliteValue.parts (.agg #[.pointer (some ⟨7, 74, none⟩), .pointer (some a), .int .u64 406])).run Tryz.prog w = .ok (some (74, a, 406)) w := by kernel_rfl
theorem partsP (a : Addr) (w : World) : (ReflectliteValue.parts (.agg #[.pointer (some ⟨7, 74, none⟩), .pointer (some a), .int .u64 150])).run Tryz.prog w = .ok (some (74, a, 150)) w := by kernel_rfl
theorem directP (w : World) : (Rtype.directlyAssignable 74 74).run Tryz.prog w = .ok true w := by kernel_rfl
theorem elemOfPP (w : World) : (Rtype.elem? 76).run Tryz.prog w = .ok (some 74) w := by kernel_rfl
theorem mkP (p : Addr) (w : World) : (ReflectliteValue.mk 74 p ReflectliteValue.flagAddr).run Tryz.prog w = .ok (.agg #[.pointer (some ⟨7, 74, none⟩), .pointer (some p), .int .u64 406]) w := by kernel_rfl
theorem methodAt (z : Sem Value) (f : TypeId → Addr → Nat → Nat → Sem Value) (v : Value) : ReflectliteValue.method z f #[v] = (ReflectliteValue.parts v >>= fun r => match r with | none => z | some (t, a, fl) => f t a fl (fl % 32)) := rfl
set_option maxRecDepth 100000 in
theorem isNilPP (a p : Addr) (W : World) (ha : W.cell? a = some (.pointer (some p))) :
    (callFunc 58 #[.agg #[.pointer (some ⟨7, 76, none⟩), .pointer (some a), .int .u64 150]]).run Tryz.prog W = .ok (.value (.bool false)) W := by
  have h := @run_callFunc_extern Tryz.prog 58 _ (ReflectliteValue.method (ReflectliteValue.valueError "reflectlite.Value.IsNil" 0) ReflectliteValue.isNil) Tryz.func58 (by kernel_rfl) (by kernel_rfl) (by kernel_rfl) (by kernel_rfl)
  rw [h]
  rw [methodAt]
  simp [Sem.run_bind, partsPP, Result.andThen, ReflectliteValue.isNil, loadVar, isAgg, underlying, Tryz.underlying76, ha]
set_option maxRecDepth 100000 in
theorem elemPP (a p : Addr) (W : World) (ha : W.cell? a = some (.pointer (some p))) :
    (callFunc 85 #[.agg #[.pointer (some ⟨7, 76, none⟩), .pointer (some a), .int .u64 150]]).run Tryz.prog W
      = .ok (.value (.agg #[.pointer (some ⟨7, 74, none⟩), .pointer (some p), .int .u64 406])) W := by
  have h := @run_callFunc_extern Tryz.prog 85 _ (ReflectliteValue.method (ReflectliteValue.valueError "reflectlite.Value.Elem" 0) ReflectliteValue.elem) Tryz.func85 (by kernel_rfl) (by kernel_rfl) (by kernel_rfl) (by kernel_rfl)
  rw [h]
  rw [methodAt]
  simp [Sem.run_bind, partsPP, Result.andThen, ReflectliteValue.elem, loadVar, isAgg, underlying, Tryz.underlying76, ha, elemOfPP, mkP]
set_option maxRecDepth 100000 in
theorem setP (ta b e : Addr) (old : Value) (W : World) (hb : W.cell? b = some (.pointer (some e))) (ht : W.cell? ta = some old) (hf : W.frozen? ta = false) :
    (callFunc 86 #[.agg #[.pointer (some ⟨7, 74, none⟩), .pointer (some ta), .int .u64 406], .agg #[.pointer (some ⟨7, 74, none⟩), .pointer (some b), .int .u64 150]]).run Tryz.prog W
      = .ok (.value (.tuple #[])) (W.setCell ta (.pointer (some e))) := by
  have h := @run_callFunc_extern Tryz.prog 86 _ ReflectliteValue.set Tryz.func86 (by kernel_rfl) (by kernel_rfl) (by kernel_rfl) (by kernel_rfl)
  rw [h]
  have hs : ∀ v x, ReflectliteValue.set #[v, x] = (ReflectliteValue.parts v >>= fun p => ReflectliteValue.parts x >>= fun q => _) := fun v x => rfl
  rw [hs]
  simp [Sem.run_bind, partsPa, partsP, Result.andThen, ReflectliteValue.flagAddr, loadVar, isAgg, underlying, Tryz.underlying74, hb, directP, storeVar, Value.cells, storeCells, Addr.add]
  rw [run_store Tryz.prog W ta _ _ (by rfl)]
  simp [ht, hf]
end Go.Proofs.YtlghjjennhpjeaaGreatDoor

namespace Go.Proofs.YtlghjjennhpjeaaGreatDoor
open Go.RowKit Go.Extern.Stop Go.Stop Go.Extern

set_option maxHeartbeats 4000000 in
set_option maxRecDepth 100000 in
theorem as0 (b : Nat) (ab tb : Nat) (w : World) (ha : w.cell? ⟨ab, 0, none⟩ = some (.pointer (some ⟨tb, 0, none⟩))) (ht : RowAt w tb [.pointer none] 74) :
    Calls Tryz.prog 59 #[.iface 74 (.pointer (some ⟨b, 0, none⟩)), .iface 76 (.pointer (some ⟨tb, 0, none⟩)), .agg #[.pointer (some ⟨7, 76, none⟩), .pointer (some ⟨ab, 0, none⟩), .int .u64 150], .iface 163 (.agg #[.pointer (some ⟨7, 74, none⟩)])] w fun r w' => r = .returned (.bool true) ∧ w'.cell? ⟨tb, 0, none⟩ = some (.pointer (some ⟨b, 0, none⟩)) ∧ But w.heap.size (fun k => k = tb) w w' := by
  have f1 := callTypeOfP
  have f2 := callTypeOfW
  have f3 := callAssignP
  have f4 := callAssignW
  have f5 := callValueOfP
  have f6 := noAsW
  have f7 := hasUnwrapW
  have hal := cell_lt ha
  have htl := ht.lt
  have el := elemPP ⟨ab, 0, none⟩ ⟨tb, 0, none⟩ (w.alloc (.cells #[.pointer (some ⟨7, 76, none⟩), .pointer (some ⟨ab, 0, none⟩), .int .u64 150] 126)) (by rw [World.cell?_alloc_lt _ _ ⟨ab, 0, none⟩ hal]; exact ha)
  have ht1 : RowAt ((w.alloc (.cells #[.pointer (some ⟨7, 76, none⟩), .pointer (some ⟨ab, 0, none⟩), .int .u64 150] 126)).alloc (.cells #[.pointer (some ⟨b, 0, none⟩)] 74)) tb [.pointer none] 74 := (ht.later (S := fun _ => False) (But.alloc (But.refl _ _ _) (Nat.le_refl _) _) htl id).later (S := fun _ => False) (But.alloc (But.refl _ _ _) (Nat.le_refl _) _) (by simp; omega) id
  have st := setP ⟨tb, 0, none⟩ ⟨w.heap.size + 1, 0, none⟩ ⟨b, 0, none⟩ (.pointer none) ((w.alloc (.cells #[.pointer (some ⟨7, 76, none⟩), .pointer (some ⟨ab, 0, none⟩), .int .u64 150] 126)).alloc (.cells #[.pointer (some ⟨b, 0, none⟩)] 74)) (by rw [World.cell?_alloc_at _ _ _ _ (by simp)]; rfl) (ht1.cell rfl) (ht1.frozen 0)
  have hset := RowAt.set ht 0 (.pointer (some ⟨b, 0, none⟩))
  have hfin := ((hset.later (S := fun _ => False) (But.alloc (But.refl _ _ _) (Nat.le_refl _) (.cells #[.pointer (some ⟨7, 76, none⟩), .pointer (some ⟨ab, 0, none⟩), .int .u64 150] 126)) hset.lt id).later (S := fun _ => False) (But.alloc (But.refl _ _ _) (Nat.le_refl _) (.cells #[.pointer (some ⟨b, 0, none⟩)] 74)) (by simp; omega) id).cell (i := 0) rfl
  have hbut := (((But.refl w.heap.size (fun k => k = tb) w).setCell (p := ⟨tb, 0, none⟩) (.inr rfl) (.pointer (some ⟨b, 0, none⟩))).alloc (by simp) (.cells #[.pointer (some ⟨7, 76, none⟩), .pointer (some ⟨ab, 0, none⟩), .int .u64 150] 126)).alloc (by simp) (.cells #[.pointer (some ⟨b, 0, none⟩)] 74)
  clear ht1 hset
  go_enter Tryz.func59, Tryz.ntmps59
  go_wp2
  refine wp_loop_rounds 1 ?_
  rw [rounds_succ]
  go_wp2_with (first | fail)
  go_ret
  exact ⟨rfl, hfin, hbut⟩
set_option maxHeartbeats 4000000 in
set_option maxRecDepth 100000 in
theorem as1 (b0 b : Nat) (ab tb : Nat) (w : World) (s0 : ByteArray) (h0 : RowAt w b0 [.string s0, .iface 74 (.pointer (some ⟨b, 0, none⟩))] 118) (ha : w.cell? ⟨ab, 0, none⟩ = some (.pointer (some ⟨tb, 0, none⟩))) (ht : RowAt w tb [.pointer none] 74) :
    Calls Tryz.prog 59 #[.iface 116 (.pointer (some ⟨b0, 0, none⟩)), .iface 76 (.pointer (some ⟨tb, 0, none⟩)), .agg #[.pointer (some ⟨7, 76, none⟩), .pointer (some ⟨ab, 0, none⟩), .int .u64 150], .iface 163 (.agg #[.pointer (some ⟨7, 74, none⟩)])] w fun r w' => r = .returned (.bool true) ∧ w'.cell? ⟨tb, 0, none⟩ = some (.pointer (some ⟨b, 0, none⟩)) ∧ But w.heap.size (fun k => k = tb) w w' := by
  have f1 := callTypeOfP
  have f2 := callTypeOfW
  have f3 := callAssignP
  have f4 := callAssignW
  have f5 := callValueOfP
  have f6 := noAsW
  have f7 := hasUnwrapW
  have K0 := unwrap_any b0 s0 _ (w.alloc (.cells #[.pointer (some ⟨7, 76, none⟩), .pointer (some ⟨ab, 0, none⟩), .int .u64 150] 126)) (h0.later (S := fun _ => False) (But.alloc (But.refl _ _ _) (Nat.le_refl _) _) h0.lt id)
  have hal := cell_lt ha
  have htl := ht.lt
  have el := elemPP ⟨ab, 0, none⟩ ⟨tb, 0, none⟩ (w.alloc (.cells #[.pointer (some ⟨7, 76, none⟩), .pointer (some ⟨ab, 0, none⟩), .int .u64 150] 126)) (by rw [World.cell?_alloc_lt _ _ ⟨ab, 0, none⟩ hal]; exact ha)
  have ht1 : RowAt ((w.alloc (.cells #[.pointer (some ⟨7, 76, none⟩), .pointer (some ⟨ab, 0, none⟩), .int .u64 150] 126)).alloc (.cells #[.pointer (some ⟨b, 0, none⟩)] 74)) tb [.pointer none] 74 := (ht.later (S := fun _ => False) (But.alloc (But.refl _ _ _) (Nat.le_refl _) _) htl id).later (S := fun _ => False) (But.alloc (But.refl _ _ _) (Nat.le_refl _) _) (by simp; omega) id
  have st := setP ⟨tb, 0, none⟩ ⟨w.heap.size + 1, 0, none⟩ ⟨b, 0, none⟩ (.pointer none) ((w.alloc (.cells #[.pointer (some ⟨7, 76, none⟩), .pointer (some ⟨ab, 0, none⟩), .int .u64 150] 126)).alloc (.cells #[.pointer (some ⟨b, 0, none⟩)] 74)) (by rw [World.cell?_alloc_at _ _ _ _ (by simp)]; rfl) (ht1.cell rfl) (ht1.frozen 0)
  have hset := RowAt.set ht 0 (.pointer (some ⟨b, 0, none⟩))
  have hfin := ((hset.later (S := fun _ => False) (But.alloc (But.refl _ _ _) (Nat.le_refl _) (.cells #[.pointer (some ⟨7, 76, none⟩), .pointer (some ⟨ab, 0, none⟩), .int .u64 150] 126)) hset.lt id).later (S := fun _ => False) (But.alloc (But.refl _ _ _) (Nat.le_refl _) (.cells #[.pointer (some ⟨b, 0, none⟩)] 74)) (by simp; omega) id).cell (i := 0) rfl
  have hbut := (((But.refl w.heap.size (fun k => k = tb) w).setCell (p := ⟨tb, 0, none⟩) (.inr rfl) (.pointer (some ⟨b, 0, none⟩))).alloc (by simp) (.cells #[.pointer (some ⟨7, 76, none⟩), .pointer (some ⟨ab, 0, none⟩), .int .u64 150] 126)).alloc (by simp) (.cells #[.pointer (some ⟨b, 0, none⟩)] 74)
  clear ht1 hset
  go_enter Tryz.func59, Tryz.ntmps59
  go_wp2
  refine wp_loop_rounds 2 ?_
  rw [rounds_succ]
  go_wp2_with (first | (go_at_call 178; with_reducible refine K0.mono ?_; rintro r w' ⟨rfl, hw'⟩; obtain rfl := hw'.symm))
  rw [rounds_succ]
  go_wp2_with (first | (go_at_call 178; with_reducible refine K0.mono ?_; rintro r w' ⟨rfl, hw'⟩; obtain rfl := hw'.symm))
  go_ret
  exact ⟨rfl, hfin, hbut⟩
set_option maxHeartbeats 4000000 in
set_option maxRecDepth 100000 in
theorem as2 (b0 b1 b : Nat) (ab tb : Nat) (w : World) (s0 s1 : ByteArray) (h0 : RowAt w b0 [.string s0, .iface 116 (.pointer (some ⟨b1, 0, none⟩))] 118) (h1 : RowAt w b1 [.string s1, .iface 74 (.pointer (some ⟨b, 0, none⟩))] 118) (ha : w.cell? ⟨ab, 0, none⟩ = some (.pointer (some ⟨tb, 0, none⟩))) (ht : RowAt w tb [.pointer none] 74) :
    Calls Tryz.prog 59 #[.iface 116 (.pointer (some ⟨b0, 0, none⟩)), .iface 76 (.pointer (some ⟨tb, 0, none⟩)), .agg #[.pointer (some ⟨7, 76, none⟩), .pointer (some ⟨ab, 0, none⟩), .int .u64 150], .iface 163 (.agg #[.pointer (some ⟨7, 74, none⟩)])] w fun r w' => r = .returned (.bool true) ∧ w'.cell? ⟨tb, 0, none⟩ = some (.pointer (some ⟨b, 0, none⟩)) ∧ But w.heap.size (fun k => k = tb) w w' := by
  have f1 := callTypeOfP
  have f2 := callTypeOfW
  have f3 := callAssignP
  have f4 := callAssignW
  have f5 := callValueOfP
  have f6 := noAsW
  have f7 := hasUnwrapW
  have K0 := unwrap_any b0 s0 _ (w.alloc (.cells #[.pointer (some ⟨7, 76, none⟩), .pointer (some ⟨ab, 0, none⟩), .int .u64 150] 126)) (h0.later (S := fun _ => False) (But.alloc (But.refl _ _ _) (Nat.le_refl _) _) h0.lt id)
  have K1 := unwrap_any b1 s1 _ (w.alloc (.cells #[.pointer (some ⟨7, 76, none⟩), .pointer (some ⟨ab, 0, none⟩), .int .u64 150] 126)) (h1.later (S := fun _ => False) (But.alloc (But.refl _ _ _) (Nat.le_refl _) _) h1.lt id)
  have hal := cell_lt ha
  have htl := ht.lt
  have el := elemPP ⟨ab, 0, none⟩ ⟨tb, 0, none⟩ (w.alloc (.cells #[.pointer (some ⟨7, 76, none⟩), .pointer (some ⟨ab, 0, none⟩), .int .u64 150] 126)) (by rw [World.cell?_alloc_lt _ _ ⟨ab, 0, none⟩ hal]; exact ha)
  have ht1 : RowAt ((w.alloc (.cells #[.pointer (some ⟨7, 76, none⟩), .pointer (some ⟨ab, 0, none⟩), .int .u64 150] 126)).alloc (.cells #[.pointer (some ⟨b, 0, none⟩)] 74)) tb [.pointer none] 74 := (ht.later (S := fun _ => False) (But.alloc (But.refl _ _ _) (Nat.le_refl _) _) htl id).later (S := fun _ => False) (But.alloc (But.refl _ _ _) (Nat.le_refl _) _) (by simp; omega) id
  have st := setP ⟨tb, 0, none⟩ ⟨w.heap.size + 1, 0, none⟩ ⟨b, 0, none⟩ (.pointer none) ((w.alloc (.cells #[.pointer (some ⟨7, 76, none⟩), .pointer (some ⟨ab, 0, none⟩), .int .u64 150] 126)).alloc (.cells #[.pointer (some ⟨b, 0, none⟩)] 74)) (by rw [World.cell?_alloc_at _ _ _ _ (by simp)]; rfl) (ht1.cell rfl) (ht1.frozen 0)
  have hset := RowAt.set ht 0 (.pointer (some ⟨b, 0, none⟩))
  have hfin := ((hset.later (S := fun _ => False) (But.alloc (But.refl _ _ _) (Nat.le_refl _) (.cells #[.pointer (some ⟨7, 76, none⟩), .pointer (some ⟨ab, 0, none⟩), .int .u64 150] 126)) hset.lt id).later (S := fun _ => False) (But.alloc (But.refl _ _ _) (Nat.le_refl _) (.cells #[.pointer (some ⟨b, 0, none⟩)] 74)) (by simp; omega) id).cell (i := 0) rfl
  have hbut := (((But.refl w.heap.size (fun k => k = tb) w).setCell (p := ⟨tb, 0, none⟩) (.inr rfl) (.pointer (some ⟨b, 0, none⟩))).alloc (by simp) (.cells #[.pointer (some ⟨7, 76, none⟩), .pointer (some ⟨ab, 0, none⟩), .int .u64 150] 126)).alloc (by simp) (.cells #[.pointer (some ⟨b, 0, none⟩)] 74)
  clear ht1 hset
  go_enter Tryz.func59, Tryz.ntmps59
  go_wp2
  refine wp_loop_rounds 3 ?_
  rw [rounds_succ]
  go_wp2_with (first | (go_at_call 178; with_reducible refine K0.mono ?_; rintro r w' ⟨rfl, hw'⟩; obtain rfl := hw'.symm) | (go_at_call 178; with_reducible refine K1.mono ?_; rintro r w' ⟨rfl, hw'⟩; obtain rfl := hw'.symm))
  rw [rounds_succ]
  go_wp2_with (first | (go_at_call 178; with_reducible refine K0.mono ?_; rintro r w' ⟨rfl, hw'⟩; obtain rfl := hw'.symm) | (go_at_call 178; with_reducible refine K1.mono ?_; rintro r w' ⟨rfl, hw'⟩; obtain rfl := hw'.symm))
  rw [rounds_succ]
  go_wp2_with (first | (go_at_call 178; with_reducible refine K0.mono ?_; rintro r w' ⟨rfl, hw'⟩; obtain rfl := hw'.symm) | (go_at_call 178; with_reducible refine K1.mono ?_; rintro r w' ⟨rfl, hw'⟩; obtain rfl := hw'.symm))
  go_ret
  exact ⟨rfl, hfin, hbut⟩
end Go.Proofs.YtlghjjennhpjeaaGreatDoor

namespace Go.Proofs.YtlghjjennhpjeaaGreatDoor
open Go.RowKit Go.Extern.Stop Go.Stop Go.Extern

theorem Chain.later {w w' : World} {S : Nat → Prop} (hb : But w.heap.size S w w') (hS : ∀ k (cs : List Value) t, RowAt w k cs t → t = 78 ∨ t = 118 → ¬ S k) : ∀ {d : Nat} {v : Value} {e p : Nat}, Chain w d v e p → Chain w' d v e p
  | 0, _, _, _, ⟨b, e1, h1⟩ => ⟨b, e1, h1.later hb h1.lt (hS b _ _ h1 (.inl rfl))⟩
  | _ + 1, _, _, _, ⟨b, s, c, e1, h1, h2⟩ => ⟨b, s, c, e1, h1.later hb h1.lt (hS b _ _ h1 (.inr rfl)), Chain.later hb hS h2⟩
theorem Chain.below {w w' : World} (hb : Below w.heap.size w w') {d : Nat} {v : Value} {e p : Nat} (h : Chain w d v e p) : Chain w' d v e p := Chain.later (S := fun _ => False) (.of_below hb) (fun _ _ _ _ _ => id) h
/-- The variable that holds the type 'error'. -/
def ErrT (w : World) : Prop := w.cell? ⟨1, 0, none⟩ = some (.iface 163 (.agg #[.pointer (some ⟨7, 45, none⟩)]))
theorem ErrT.below {w w' : World} {B : Nat} (h : ErrT w) (hb : Below B w w') (hB : 1 < B) : ErrT w' := (hb.cell (p := ⟨1, 0, none⟩) hB).trans h
theorem callKindPP (w : World) : (callFunc 172 #[.pointer (some ⟨7, 76, none⟩)]).run Tryz.prog w = .ok (.value (.int .u8 22)) w := by kernel_rfl
theorem callKindP (w : World) : (callFunc 172 #[.pointer (some ⟨7, 74, none⟩)]).run Tryz.prog w = .ok (.value (.int .u8 22)) w := by kernel_rfl

/-- What errors.as leaves. -/
def AsPost (w : World) (tb e p : Nat) (r : Ending) (w' : World) : Prop := r = .returned (.bool true) ∧ ∃ b, w'.cell? ⟨tb, 0, none⟩ = some (.pointer (some ⟨b, 0, none⟩)) ∧ RowAt w' b [.int .i64 (e : Int), .int .i64 (p : Int)] 78 ∧ But w.heap.size (fun k => k = tb) w w'
theorem RowAt.apart {w : World} {b b' : Nat} {cs cs' : List Value} {t t' : TypeId} (h : RowAt w b cs t) (h' : RowAt w b' cs' t') (hne : t ≠ t') : b ≠ b' := by
  rintro rfl
  unfold RowAt at h h'
  rw [h] at h'
  cases h'
  exact hne rfl
theorem as_chain (d : Nat) (hd : d ≤ 2) (v : Value) (e p ab tb : Nat) (w : World) (h : Chain w d v e p) (ha : w.cell? ⟨ab, 0, none⟩ = some (.pointer (some ⟨tb, 0, none⟩))) (ht : RowAt w tb [.pointer none] 74) :
    Calls Tryz.prog 59 #[v, .iface 76 (.pointer (some ⟨tb, 0, none⟩)), .agg #[.pointer (some ⟨7, 76, none⟩), .pointer (some ⟨ab, 0, none⟩), .int .u64 150], .iface 163 (.agg #[.pointer (some ⟨7, 74, none⟩)])] w fun r w' => AsPost w tb e p r w' := by
  match d, hd, h with
  | 0, _, ⟨b, e1, h1⟩ => subst e1; exact (as0 b ab tb w ha ht).mono fun r w' x => ⟨x.1, b, x.2.1, h1.later x.2.2 h1.lt (RowAt.apart h1 ht (by decide)), x.2.2⟩
  | 1, _, ⟨b0, s0, c, e1, h1, b, e2, h2⟩ => subst e1 e2; exact (as1 b0 b ab tb w s0 h1 ha ht).mono fun r w' x => ⟨x.1, b, x.2.1, h2.later x.2.2 h2.lt (RowAt.apart h2 ht (by decide)), x.2.2⟩
  | 2, _, ⟨b0, s0, c, e1, h1, b1, s1, c1, e2, h2, b, e3, h3⟩ => subst e1 e2 e3; exact (as2 b0 b1 b ab tb w s0 s1 h1 h2 ha ht).mono fun r w' x => ⟨x.1, b, x.2.1, h3.later x.2.2 h3.lt (RowAt.apart h3 ht (by decide)), x.2.2⟩

set_option maxHeartbeats 2000000 in
set_option maxRecDepth 100000 in
theorem As_chain (d : Nat) (hd : d ≤ 2) (v : Value) (e p tb : Nat) (w : World) (h : Chain w d v e p) (ht : RowAt w tb [.pointer none] 74) (hE : ErrT w) :
    Calls Tryz.prog 27 #[v, .iface 76 (.pointer (some ⟨tb, 0, none⟩))] w fun r w' => AsPost w tb e p r w' := by
  have f1 := callValueOfPP
  have f2 := callTypePP
  have f3 := callKindPP
  have f4 := callKindP
  have f5 := callElemPP
  have f6 := callImplements
  have htl := ht.lt
  have hg := cell_lt hE
  simp only at hg
  have hb1 : Below w.heap.size w ((w.alloc (.cells #[.pointer (some ⟨tb, 0, none⟩)] 76)).alloc (.cells #[.pointer (some ⟨7, 76, none⟩), .pointer (some ⟨w.heap.size, 0, none⟩), .int .u64 150] 126)) := ((Below.refl w.heap.size w).alloc (Nat.le_refl _) _).alloc (by simp) _
  have hc1 : ((w.alloc (.cells #[.pointer (some ⟨tb, 0, none⟩)] 76)).alloc (.cells #[.pointer (some ⟨7, 76, none⟩), .pointer (some ⟨w.heap.size, 0, none⟩), .int .u64 150] 126)).cell? ⟨w.heap.size, 0, none⟩ = some (.pointer (some ⟨tb, 0, none⟩)) := by
    rw [World.cell?_alloc_lt _ _ ⟨w.heap.size, 0, none⟩ (by simp)]
    exact (RowAt.made w [.pointer (some ⟨tb, 0, none⟩)] 76).cell (i := 0) rfl
  have n1 := isNilPP ⟨w.heap.size, 0, none⟩ ⟨tb, 0, none⟩ _ hc1
  have hE1 := hE.below hb1 hg
  unfold ErrT at hE1
  have K := as_chain d hd v e p w.heap.size tb _ (h.below hb1) hc1 (ht.later (S := fun _ => False) (.of_below hb1) htl id)
  obtain ⟨t, x, rfl⟩ := h.iface
  have K2 : Calls Tryz.prog 59 _ _ (fun r w' => AsPost w tb e p r w') := K.mono (by
    rintro r w' ⟨h1, b, h2, h3, h4⟩
    exact ⟨h1, b, h2, h3, (But.of_below hb1).trans (h4.mono (by simp; omega) (fun _ x => x))⟩)
  clear hE h ht K
  unfold AsPost at K2
  go_enter Tryz.func27, Tryz.ntmps27
  go_wp2_with (first | (go_at_call 59; refine K2.mono ?_; rintro r w' ⟨rfl, h2⟩))
  go_ret
  exact ⟨rfl, h2⟩
set_option maxHeartbeats 2000000 in
set_option maxRecDepth 100000 in
theorem As_nil (x : Value) (w : World) :
    Calls Tryz.prog 27 #[.nilIface, x] w fun r w' => r = .returned (.bool false) ∧ w' = w := by
  go_enter Tryz.func27, Tryz.ntmps27
  go_wp2
  go_ret
  exact ⟨rfl, rfl⟩
set_option maxHeartbeats 2000000 in
set_option maxRecDepth 100000 in
theorem answer_nil (w : World) :
    Calls Tryz.prog 11 #[.nilIface] w fun r w' => r = .returned (.tuple #[.int .i64 0, .int .i64 0]) ∧ Below w.heap.size w w' := by
  have hB := (Below.refl w.heap.size w).alloc (Nat.le_refl _) (.cells #[.pointer none] 74)
  go_enter Tryz.func11, Tryz.ntmps11
  go_wp2_with (first | (go_at_call 27; refine (As_nil _ _).mono ?_; rintro r w' ⟨rfl, hw'⟩; obtain rfl := hw'.symm))
  go_ret2
  exact ⟨rfl, hB⟩
set_option maxHeartbeats 2000000 in
set_option maxRecDepth 100000 in
theorem answer_chain (d : Nat) (hd : d ≤ 2) (v : Value) (e p : Nat) (w : World) (h : Chain w d v e p) (hE : ErrT w) :
    Calls Tryz.prog 11 #[v] w fun r w' => r = .returned (.tuple #[.int .i64 (e : Int), .int .i64 (p : Int)]) ∧ Below w.heap.size w w' := by
  have hB := (Below.refl w.heap.size w).alloc (Nat.le_refl _) (.cells #[.pointer none] 74)
  have K := As_chain d hd v e p w.heap.size _ (h.below hB) (RowAt.made w [.pointer none] 74) (hE.below hB (cell_lt hE))
  unfold AsPost at K
  obtain ⟨t, x, rfl⟩ := h.iface
  clear h hE
  go_enter Tryz.func11, Tryz.ntmps11
  go_wp2_with (first | (go_at_call 27; refine K.mono ?_; rintro r w1 ⟨rfl, b, hc, hr, hb⟩; have c0 := hr.cell (i := 0) rfl; have c1 := hr.cell (i := 1) rfl))
  have hBz : Below w.heap.size w w1 := (But.of_below hB |>.trans (hb.mono (by simp) (fun _ x => x))).below (fun k hk x => by omega)
  clear K hb hr
  go_big_quiet (fail)
  go_wp2
  go_ret2
  exact ⟨rfl, hBz.trans ⟨rfl, rfl, rfl, Nat.le_refl _, fun _ _ => rfl⟩⟩
end Go.Proofs.YtlghjjennhpjeaaGreatDoor

/-
  What errors.Is finds in a fault that is wrapped at most twice.
-/
import Derived.Test.YtkpcmfgeanlcnaaDoorWrH
import Derived.WalkKit
import Derived.LaidEql
import Derived.Stop.Asserts
import Derived.RowKitTokens
import Derived.Handy
namespace Go.Proofs.YtkpcmfgeanlcnaaDoor
open Go.RowKit Go.Extern.Stop Go.Stop Go.Extern

/-- An error that is a fault, wrapped so many times. -/
def Chain (w : World) : Nat → Value → Nat → Nat → Prop
  | 0, v, e, p => ∃ b, v = .iface 143 (.pointer (some ⟨b, 0, none⟩)) ∧ RowAt w b [.int .i64 (e : Int), .int .i64 (p : Int)] 147
  | d + 1, v, e, p => ∃ b s c, v = .iface 203 (.pointer (some ⟨b, 0, none⟩)) ∧ RowAt w b [.string s, c] 205 ∧ Chain w d c e p
/-- The variable TooEarly holds an error of its own. -/
def Early (w : World) (a : Addr) : Prop := w.cell? ⟨1, 0, none⟩ = some (.iface 246 (.pointer (some a)))

theorem callTypeOf (v : Value) (w : World) : (callFunc 85 #[.iface 246 v]).run Tryd.prog w = .ok (.value (.iface 169 (.agg #[.pointer (some ⟨6, 246, none⟩)]))) w := by kernel_rfl
theorem callComparable (w : World) : (callFunc 194 #[.agg #[.pointer (some ⟨6, 246, none⟩)]]).run Tryd.prog w = .ok (.value (.bool true)) w := by kernel_rfl
theorem isComp : (Tryd.prog.info? 246).map (·.comparable) = some true := by kernel_rfl
theorem isSize : (Tryd.prog.info? 266).map (·.size) = some 1 := by kernel_rfl
theorem hasIsF (v : Value) (xT : TypeId) (w : World) : (Instr.typeAssert (.iface 143 v) xT 171 true).run Tryd.prog w = .ok (.tuple #[.iface 143 v, .bool true]) w := run_typeAssert_hasB Tryd.underlying171 (by kernel_rfl) v xT w
theorem noUnwrapF (v : Value) (xT : TypeId) (w : World) : (Instr.typeAssert (.iface 143 v) xT 174 true).run Tryd.prog w = .ok (.tuple #[.nilIface, .bool false]) w := run_typeAssert_lacksB Tryd.underlying174 (by kernel_rfl) (by kernel_rfl) v xT w
theorem noUnwrapsF (v : Value) (xT : TypeId) (w : World) : (Instr.typeAssert (.iface 143 v) xT 175 true).run Tryd.prog w = .ok (.tuple #[.nilIface, .bool false]) w := run_typeAssert_lacksB Tryd.underlying175 (by kernel_rfl) (by kernel_rfl) v xT w
theorem noIsW (v : Value) (xT : TypeId) (w : World) : (Instr.typeAssert (.iface 203 v) xT 171 true).run Tryd.prog w = .ok (.tuple #[.nilIface, .bool false]) w := run_typeAssert_lacksB Tryd.underlying171 (by kernel_rfl) (by kernel_rfl) v xT w
theorem hasUnwrapW (v : Value) (xT : TypeId) (w : World) : (Instr.typeAssert (.iface 203 v) xT 174 true).run Tryd.prog w = .ok (.tuple #[.iface 203 v, .bool true]) w := run_typeAssert_hasB Tryd.underlying174 (by kernel_rfl) v xT w

set_option maxHeartbeats 1000000 in
set_option maxRecDepth 100000 in
theorem faultIs_any (b : Nat) (a : Addr) (e p : Nat) (w : World) (h : RowAt w b [.int .i64 (e : Int), .int .i64 (p : Int)] 147) (hE : Early w a) :
    Calls Tryd.prog 191 #[.pointer (some ⟨b, 0, none⟩), .iface 246 (.pointer (some a))] w fun r w' => r = .returned (.bool (decide (e = 4))) ∧ w' = w := by
  obtain ⟨i, hi, hcmp⟩ := Option.map_eq_some_iff.1 isComp
  obtain ⟨j, hj, hjs⟩ := Option.map_eq_some_iff.1 isSize
  have heq := run_eql_iface_ptr_same (P := Tryd.prog) w a Tryd.underlying76 Tryd.underlying246 hi hcmp hj
  have c0 := h.cell (i := 0) rfl
  unfold Early at hE
  by_cases q : e = 4
  · subst q
    go_enter Tryd.func191, Tryd.ntmps191
    go_wp2
    go_ret
    exact ⟨rfl, rfl⟩
  · have q' : ((e : Int) == 4) = false := by simp; omega
    have HQ : Hid (decide (e = 4) = false) := decide_eq_false q
    clear q
    go_enter Tryd.func191, Tryd.ntmps191
    go_wp2
    go_ret
    exact ⟨ret_bool' (by rw [HQ.out]), rfl⟩
set_option maxHeartbeats 1000000 in
set_option maxRecDepth 100000 in
theorem unwrap_any (b : Nat) (s : ByteArray) (c : Value) (w : World) (h : RowAt w b [.string s, c] 205) :
    Calls Tryd.prog 207 #[.pointer (some ⟨b, 0, none⟩)] w fun r w' => r = .returned c ∧ w' = w := by
  have c1 := h.cell (i := 1) rfl
  go_enter Tryd.func207, Tryd.ntmps207
  go_wp2
  go_ret
  exact ⟨rfl, rfl⟩

set_option maxHeartbeats 2000000 in
set_option maxRecDepth 100000 in
theorem is0 (b : Nat) (a : Addr) (e p : Nat) (w : World) (h : RowAt w b [.int .i64 (e : Int), .int .i64 (p : Int)] 147) (hE : Early w a) :
    Calls Tryd.prog 86 #[.iface 143 (.pointer (some ⟨b, 0, none⟩)), .iface 246 (.pointer (some a)), .bool true] w fun r w' => r = .returned (.bool (decide (e = 4))) ∧ w' = w := by
  have K := faultIs_any b a e p w h hE
  have i1 := hasIsF
  have i2 := noUnwrapF
  have i3 := noUnwrapsF
  have hty := run_eql_iface_types (P := Tryd.prog) 143 246 (.pointer (some ⟨b, 0, none⟩)) (.pointer (some a)) Tryd.underlying76 (by decide) w
  cases q : decide (e = 4)
  all_goals rw [q] at K
  all_goals
    go_enter Tryd.func86, Tryd.ntmps86
    go_wp2
    refine wp_loop_rounds 1 ?_
    rw [rounds_succ]
    go_wp2_with (first | (go_at_call 191; refine K.mono ?_; rintro r w' ⟨rfl, hw'⟩; obtain rfl := hw'.symm))
    go_ret
    exact ⟨rfl, rfl⟩
set_option maxHeartbeats 4000000 in
set_option maxRecDepth 100000 in
theorem is1 (b0 b : Nat) (s0 : ByteArray) (a : Addr) (e p : Nat) (w : World) (h0 : RowAt w b0 [.string s0, .iface 143 (.pointer (some ⟨b, 0, none⟩))] 205) (h : RowAt w b [.int .i64 (e : Int), .int .i64 (p : Int)] 147) (hE : Early w a) :
    Calls Tryd.prog 86 #[.iface 203 (.pointer (some ⟨b0, 0, none⟩)), .iface 246 (.pointer (some a)), .bool true] w fun r w' => r = .returned (.bool (decide (e = 4))) ∧ w' = w := by
  have K := faultIs_any b a e p w h hE
  have K0 := unwrap_any b0 s0 _ w h0
  have i1 := hasIsF
  have i2 := noUnwrapF
  have i3 := noUnwrapsF
  have i4 := noIsW
  have i5 := hasUnwrapW
  have hty := run_eql_iface_types (P := Tryd.prog) 143 246 (.pointer (some ⟨b, 0, none⟩)) (.pointer (some a)) Tryd.underlying76 (by decide) w
  have hty0 := run_eql_iface_types (P := Tryd.prog) 203 246 (.pointer (some ⟨b0, 0, none⟩)) (.pointer (some a)) Tryd.underlying76 (by decide) w
  cases q : decide (e = 4)
  all_goals rw [q] at K
  all_goals
    go_enter Tryd.func86, Tryd.ntmps86
    go_wp2
    refine wp_loop_rounds 2 ?_
    rw [rounds_succ]
    go_wp2_with (first | (go_at_call 191; refine K.mono ?_; rintro r w' ⟨rfl, hw'⟩; obtain rfl := hw'.symm) | (go_at_call 207; with_reducible refine K0.mono ?_; rintro r w' ⟨rfl, hw'⟩; obtain rfl := hw'.symm))
    rw [rounds_succ]
    go_wp2_with (first | (go_at_call 191; refine K.mono ?_; rintro r w' ⟨rfl, hw'⟩; obtain rfl := hw'.symm) | (go_at_call 207; with_reducible refine K0.mono ?_; rintro r w' ⟨rfl, hw'⟩; obtain rfl := hw'.symm))
    go_ret
    exact ⟨rfl, rfl⟩
set_option maxHeartbeats 4000000 in
set_option maxRecDepth 100000 in
theorem is2 (b0 b1 b : Nat) (s0 s1 : ByteArray) (a : Addr) (e p : Nat) (w : World) (h0 : RowAt w b0 [.string s0, .iface 203 (.pointer (some ⟨b1, 0, none⟩))] 205) (h1 : RowAt w b1 [.string s1, .iface 143 (.pointer (some ⟨b, 0, none⟩))] 205) (h : RowAt w b [.int .i64 (e : Int), .int .i64 (p : Int)] 147) (hE : Early w a) :
    Calls Tryd.prog 86 #[.iface 203 (.pointer (some ⟨b0, 0, none⟩)), .iface 246 (.pointer (some a)), .bool true] w fun r w' => r = .returned (.bool (decide (e = 4))) ∧ w' = w := by
  have K := faultIs_any b a e p w h hE
  have K0 := unwrap_any b0 s0 _ w h0
  have K1 := unwrap_any b1 s1 _ w h1
  have i1 := hasIsF
  have i2 := noUnwrapF
  have i3 := noUnwrapsF
  have i4 := noIsW
  have i5 := hasUnwrapW
  have hty := run_eql_iface_types (P := Tryd.prog) 143 246 (.pointer (some ⟨b, 0, none⟩)) (.pointer (some a)) Tryd.underlying76 (by decide) w
  have hty0 := run_eql_iface_types (P := Tryd.prog) 203 246 (.pointer (some ⟨b0, 0, none⟩)) (.pointer (some a)) Tryd.underlying76 (by decide) w
  have hty1 := run_eql_iface_types (P := Tryd.prog) 203 246 (.pointer (some ⟨b1, 0, none⟩)) (.pointer (some a)) Tryd.underlying76 (by decide) w
  cases q : decide (e = 4)
  all_goals rw [q] at K
  all_goals
    go_enter Tryd.func86, Tryd.ntmps86
    go_wp2
    refine wp_loop_rounds 3 ?_
    rw [rounds_succ]
    go_wp2_with (first | (go_at_call 191; refine K.mono ?_; rintro r w' ⟨rfl, hw'⟩; obtain rfl := hw'.symm) | (go_at_call 207; with_reducible refine K0.mono ?_; rintro r w' ⟨rfl, hw'⟩; obtain rfl := hw'.symm) | (go_at_call 207; with_reducible refine K1.mono ?_; rintro r w' ⟨rfl, hw'⟩; obtain rfl := hw'.symm))
    rw [rounds_succ]
    go_wp2_with (first | (go_at_call 191; refine K.mono ?_; rintro r w' ⟨rfl, hw'⟩; obtain rfl := hw'.symm) | (go_at_call 207; with_reducible refine K0.mono ?_; rintro r w' ⟨rfl, hw'⟩; obtain rfl := hw'.symm) | (go_at_call 207; with_reducible refine K1.mono ?_; rintro r w' ⟨rfl, hw'⟩; obtain rfl := hw'.symm))
    rw [rounds_succ]
    go_wp2_with (first | (go_at_call 191; refine K.mono ?_; rintro r w' ⟨rfl, hw'⟩; obtain rfl := hw'.symm) | (go_at_call 207; with_reducible refine K0.mono ?_; rintro r w' ⟨rfl, hw'⟩; obtain rfl := hw'.symm) | (go_at_call 207; with_reducible refine K1.mono ?_; rintro r w' ⟨rfl, hw'⟩; obtain rfl := hw'.symm))
    go_ret
    exact ⟨rfl, rfl⟩
/-- What errors.is finds in a wrapped fault. -/
theorem is_chain (d : Nat) (hd : d ≤ 2) (v : Value) (a : Addr) (e p : Nat) (w : World) (h : Chain w d v e p) (hE : Early w a) :
    Calls Tryd.prog 86 #[v, .iface 246 (.pointer (some a)), .bool true] w fun r w' => r = .returned (.bool (decide (e = 4))) ∧ w' = w := by
  match d, hd, h with
  | 0, _, ⟨b, e1, h1⟩ => subst e1; exact is0 b a e p w h1 hE
  | 1, _, ⟨b0, s0, c, e1, h1, b, e2, h2⟩ => subst e1 e2; exact is1 b0 b s0 a e p w h1 h2 hE
  | 2, _, ⟨b0, s0, c, e1, h1, b1, s1, c1, e2, h2, b, e3, h3⟩ => subst e1 e2 e3; exact is2 b0 b1 b s0 s1 a e p w h1 h2 h3 hE
theorem Chain.iface {w : World} {d : Nat} {v : Value} {e p : Nat} (h : Chain w d v e p) : ∃ t x, v = .iface t x := by
  match d, h with
  | 0, ⟨b, e1, _⟩ => exact ⟨_, _, e1⟩
  | d + 1, ⟨b, s, c, e1, _, _⟩ => exact ⟨_, _, e1⟩

set_option maxHeartbeats 2000000 in
set_option maxRecDepth 100000 in
theorem Is_nil (a : Addr) (w : World) :
    Calls Tryd.prog 52 #[.nilIface, .iface 246 (.pointer (some a))] w fun r w' => r = .returned (.bool false) ∧ w' = w := by
  have hn := run_eql_iface_nil_left (P := Tryd.prog) w 246 (.pointer (some a)) Tryd.underlying76
  go_enter Tryd.func52, Tryd.ntmps52
  go_wp2
  go_ret
  exact ⟨rfl, rfl⟩
set_option maxHeartbeats 2000000 in
set_option maxRecDepth 100000 in
theorem Is_chain (d : Nat) (hd : d ≤ 2) (v : Value) (a : Addr) (e p : Nat) (w : World) (h : Chain w d v e p) (hE : Early w a) :
    Calls Tryd.prog 52 #[v, .iface 246 (.pointer (some a))] w fun r w' => r = .returned (.bool (decide (e = 4))) ∧ w' = w := by
  have K := is_chain d hd v a e p w h hE
  obtain ⟨t, x, rfl⟩ := h.iface
  have tT := callTypeOf
  have cT := callComparable
  clear h hE
  cases q : decide (e = 4)
  all_goals rw [q] at K
  all_goals
    go_enter Tryd.func52, Tryd.ntmps52
    go_wp2_with (first | (go_at_call 86; refine K.mono ?_; rintro r w' ⟨rfl, hw'⟩; obtain rfl := hw'.symm))
    go_ret
    exact ⟨rfl, rfl⟩
end Go.Proofs.YtkpcmfgeanlcnaaDoor

/-
  For all numbers a, b and c the call Ring of the program's statements returns true and leaves its arguments as they were; no condition.
-/
import Derived.Test.YtkpcmfgeanlcnaaRows
import Derived.Test.YtkpcmfgeanlcnaaRef
import Derived.WalkKit
import Derived.ProofKit
import Derived.OpenShut
import Derived.ShutString
namespace Go.Proofs.Ytkpcmfgeanlcnaa.ring
open Go.ChangeShapes Go.WideShapes Go.ChangeAt Go.RowKit
open Go.ChangeMaps (open_string shut_string)
set_option linter.unusedVariables false

theorem own : ownKnob Try.prog.godebug = none := by kernel_rfl

theorem cm {a b m : Nat} (ha : a < 256) (hb : b < 256) (h : mul a b = m) (w : World) :
    Calls Try.prog 8 #[.int .u8 (a : Int), .int .u8 (b : Int)] w fun e w' => e = .returned (.int .u8 (m : Int)) ∧ w' = w := by
  rw [← h]; exact cmul_any a b ha hb w
theorem ci {a m : Nat} (ha : a < 256) (h : inv a = m) (w : World) :
    Calls Try.prog 10 #[.int .u8 (a : Int)] w fun e w' => e = .returned (.int .u8 (m : Int)) ∧ w' = w := by
  rw [← h]; exact cinv_any a ha w
theorem two_mul_lo {x : Nat} (h : x < 128) : mul 2 x = x + x := by
  rw [mul_comm (by omega) (by omega)]
  have : ∀ x : Fin 128, mul x.val 2 = x.val + x.val := by decide +kernel
  exact this ⟨x, h⟩

theorem cm1 {a : Nat} (ha : a < 256) (w : World) :
    Calls Try.prog 8 #[.int .u8 (a : Int), .int .u8 1] w fun e w' => e = .returned (.int .u8 (a : Int)) ∧ w' = w :=
  cm (b := 1) ha (by omega) (mul_one ha) w
theorem cm0 {a : Nat} (ha : a < 256) (w : World) :
    Calls Try.prog 8 #[.int .u8 (a : Int), .int .u8 0] w fun e w' => e = .returned (.int .u8 0) ∧ w' = w :=
  cm (b := 0) (m := 0) ha (by omega) (mul_zero a) w
theorem cm29 (w : World) :
    Calls Try.prog 8 #[.int .u8 2, .int .u8 128] w fun e w' => e = .returned (.int .u8 29) ∧ w' = w :=
  cm (a := 2) (b := 128) (m := 29) (by omega) (by omega) (by decide +kernel) w
theorem cm2 {a : Nat} (ha : a < 128) (w : World) :
    Calls Try.prog 8 #[.int .u8 2, .int .u8 (a : Int)] w fun e w' => e = .returned (.int .u8 ((a : Int) + (a : Int))) ∧ w' = w :=
  cm (a := 2) (by omega) (by omega) (two_mul_lo ha) w
theorem cm' {a b : Nat} (ha : a < 256) (hb : b < 256) (h : mul a b = 1) (w : World) :
    Calls Try.prog 8 #[.int .u8 (a : Int), .int .u8 (b : Int)] w fun e w' => e = .returned (.int .u8 1) ∧ w' = w :=
  cm (m := 1) ha hb h w
theorem ci0 (w : World) {a : Nat} (h : a = 0) :
    Calls Try.prog 10 #[.int .u8 (a : Int)] w fun e w' => e = .returned (.int .u8 0) ∧ w' = w :=
  ci (m := 0) (by omega) (by rw [h, inv_zero]) w

set_option maxHeartbeats 1000000 in
set_option maxRecDepth 100000 in
theorem walk (a0 : Int) (a1 : Int) (a2 : Int) (w0 : (Lit.int .i64 a0).wf = true) (w1 : (Lit.int .i64 a1).wf = true) (w2 : (Lit.int .i64 a2).wf = true) (w : World) :
    Calls Try.prog 6 #[.int .i64 a0, .int .i64 a1, .int .i64 a2] w fun e w' => e = .returned (.bool true) ∧ Grown w w' := by
  obtain ⟨x, hx, ex⟩ := byte_of a0
  obtain ⟨y, hy, ey⟩ := byte_of a1
  obtain ⟨z, hz, ez⟩ := byte_of a2
  have hyz := xor_lt hy hz
  obtain ⟨m, hm⟩ : ∃ m, mul x y = m := ⟨_, rfl⟩
  obtain ⟨n, hn⟩ : ∃ n, mul y z = n := ⟨_, rfl⟩
  obtain ⟨l, hl⟩ : ∃ l, mul x z = l := ⟨_, rfl⟩
  obtain ⟨t, ht⟩ : ∃ t, mul x n = t := ⟨_, rfl⟩
  obtain ⟨i, hi⟩ : ∃ i, inv x = i := ⟨_, rfl⟩
  have bm : m < 256 := hm ▸ mul_lt hx
  have bn : n < 256 := hn ▸ mul_lt hy
  have bl : l < 256 := hl ▸ mul_lt hx
  have bi : i < 256 := hi ▸ inv_lt hx
  have cxy := cm hx hy hm
  have cyx := cm hy hx ((mul_comm hy hx).trans hm)
  have cx1 := cm1 hx
  have cx0 := cm0 hx
  have cyz := cm hy hz hn
  have cxn := cm hx bn ht
  have cmz : ∀ w, _ := cm bm hz (by rw [← hm, ← mul_assoc hx hy hz, hn, ht])
  have cxq := cm hx hyz (by rw [mul_xor_right _ _ hx, hm, hl])
  have cxz := cm hx hz hl
  have c2 := cm29
  have ix := ci hx hi
  have ii := ci bi (hi ▸ inv_inv hx)
  have e1 := u8_xor_b hy hz
  have e2 := u8_xor_b bm bl
  clear hm hn hl ht
  by_cases h0 : x = 0
  · have hx0 : ((x : Int) == 0) = true := by rw [h0]; rfl
    have hlo : x < 128 := by omega
    have c2x := cm2 hlo
    have i0 := fun w => ci0 w h0
    clear hi ix ii h0
    go_enter Try.func6, Try.ntmps6
    go_wp2_with (first | (go_at_call 8; first | (with_reducible refine (cxy _).mono ?_; rintro e w' ⟨rfl, rfl⟩) | (with_reducible refine (cyx _).mono ?_; rintro e w' ⟨rfl, rfl⟩) | (with_reducible refine (cx1 _).mono ?_; rintro e w' ⟨rfl, rfl⟩) | (with_reducible refine (cx0 _).mono ?_; rintro e w' ⟨rfl, rfl⟩) | (with_reducible refine (cyz _).mono ?_; rintro e w' ⟨rfl, rfl⟩) | (with_reducible refine (cxn _).mono ?_; rintro e w' ⟨rfl, rfl⟩) | (with_reducible refine (cmz _).mono ?_; rintro e w' ⟨rfl, rfl⟩) | (with_reducible refine (cxq _).mono ?_; rintro e w' ⟨rfl, rfl⟩) | (with_reducible refine (cxz _).mono ?_; rintro e w' ⟨rfl, rfl⟩) | (with_reducible refine (c2 _).mono ?_; rintro e w' ⟨rfl, rfl⟩) | (with_reducible refine (c2x _).mono ?_; rintro e w' ⟨rfl, rfl⟩)) | (go_at_call 10; first | (with_reducible refine (i0 _).mono ?_; rintro e w' ⟨rfl, rfl⟩)))
    go_ret
    exact ⟨rfl, Grown.refl _⟩
  · have hx0 : ((x : Int) == 0) = false := by simpa using h0
    have cxi := cm' hx bi (hi ▸ mul_inv hx h0)
    clear hi
    by_cases hlo : x < 128
    · have c2x := cm2 hlo
      clear h0
      go_enter Try.func6, Try.ntmps6
      go_wp2_with (first | (go_at_call 8; first | (with_reducible refine (cxy _).mono ?_; rintro e w' ⟨rfl, rfl⟩) | (with_reducible refine (cyx _).mono ?_; rintro e w' ⟨rfl, rfl⟩) | (with_reducible refine (cx1 _).mono ?_; rintro e w' ⟨rfl, rfl⟩) | (with_reducible refine (cx0 _).mono ?_; rintro e w' ⟨rfl, rfl⟩) | (with_reducible refine (cyz _).mono ?_; rintro e w' ⟨rfl, rfl⟩) | (with_reducible refine (cxn _).mono ?_; rintro e w' ⟨rfl, rfl⟩) | (with_reducible refine (cmz _).mono ?_; rintro e w' ⟨rfl, rfl⟩) | (with_reducible refine (cxq _).mono ?_; rintro e w' ⟨rfl, rfl⟩) | (with_reducible refine (cxz _).mono ?_; rintro e w' ⟨rfl, rfl⟩) | (with_reducible refine (c2 _).mono ?_; rintro e w' ⟨rfl, rfl⟩) | (with_reducible refine (c2x _).mono ?_; rintro e w' ⟨rfl, rfl⟩) | (with_reducible refine (cxi _).mono ?_; rintro e w' ⟨rfl, rfl⟩)) | (go_at_call 10; first | (with_reducible refine (ix _).mono ?_; rintro e w' ⟨rfl, rfl⟩) | (with_reducible refine (ii _).mono ?_; rintro e w' ⟨rfl, rfl⟩)))
      go_ret
      exact ⟨rfl, Grown.refl _⟩
    · go_enter Try.func6, Try.ntmps6
      go_wp2_with (first | (go_at_call 8; first | (with_reducible refine (cxy _).mono ?_; rintro e w' ⟨rfl, rfl⟩) | (with_reducible refine (cyx _).mono ?_; rintro e w' ⟨rfl, rfl⟩) | (with_reducible refine (cx1 _).mono ?_; rintro e w' ⟨rfl, rfl⟩) | (with_reducible refine (cx0 _).mono ?_; rintro e w' ⟨rfl, rfl⟩) | (with_reducible refine (cyz _).mono ?_; rintro e w' ⟨rfl, rfl⟩) | (with_reducible refine (cxn _).mono ?_; rintro e w' ⟨rfl, rfl⟩) | (with_reducible refine (cmz _).mono ?_; rintro e w' ⟨rfl, rfl⟩) | (with_reducible refine (cxq _).mono ?_; rintro e w' ⟨rfl, rfl⟩) | (with_reducible refine (cxz _).mono ?_; rintro e w' ⟨rfl, rfl⟩) | (with_reducible refine (c2 _).mono ?_; rintro e w' ⟨rfl, rfl⟩) | (with_reducible refine (cxi _).mono ?_; rintro e w' ⟨rfl, rfl⟩)) | (go_at_call 10; first | (with_reducible refine (ix _).mono ?_; rintro e w' ⟨rfl, rfl⟩) | (with_reducible refine (ii _).mono ?_; rintro e w' ⟨rfl, rfl⟩)))
      go_ret
      exact ⟨rfl, Grown.refl _⟩

set_option maxRecDepth 100000 in
theorem lifted (os : Os) (started : os.Started) (H : Type) (enc : TypeId × Value → H) :
    ReturnsInHanded {} Try.checked os 6 .any (Rows.ringSpec.pre6 enc Try.prog Try.f6 Rows.ringRow.domain false) (Rows.ringSpec.post enc Try.prog Try.f6 false true false false) := by
  refine returnsInHanded_of_change (C := Try.checked) own started (by kernel_rfl) Try.func6
    (ChangeSpec.witness6 (enc := enc) (C := Try.checked) false ⟨#[], #[.int .i64 0, .int .i64 0, .int .i64 0], []⟩ 8 (by kernel_rfl) (by kernel_rfl) (by kernel_rfl) (by kernel_rfl)) ?_
  intro W base args ds gs before hval0 hW hcnd _
  have hval : ∀ (j : Nat) t v, Try.f6.params[j]? = some t → args[j]? = some v → Value.okWide Try.prog W .any base t v := hval0
  have hW' := hW
  obtain ⟨p, q, hA0, hV, rfl, hfz, hnd⟩ := hW
  have hA : DataW.TrodAll enc Try.prog W 0 (fun _ => true) true Try.f6.params.toList args.toList ds p := hA0
  rw [Try.params6] at hA hval
  obtain ⟨v0, vs0, d0, ds0, p0, q0, hargs, rfl, rfl, h0, r0⟩ := trodAll_cons hA
  obtain ⟨v1, vs1, d1, ds1, p1, q1, rfl, rfl, rfl, h1, r1⟩ := trodAll_cons r0
  obtain ⟨v2, vs2, d2, ds2, p2, q2, rfl, rfl, rfl, h2, r2⟩ := trodAll_cons r1
  obtain ⟨rfl, rfl, rfl⟩ := trodAll_nil r2
  obtain rfl : args = #[v0, v1, v2] := by cases args; simp_all
  obtain ⟨rfl, rfl⟩ := trodVars_none hV
  obtain ⟨a0, rfl, rfl, rfl, w0⟩ := open_int Try.underlying3 (hval 0 3 v0 rfl rfl) h0
  obtain ⟨a1, rfl, rfl, rfl, w1⟩ := open_int Try.underlying3 (hval 1 3 v1 rfl rfl) h1
  obtain ⟨a2, rfl, rfl, rfl, w2⟩ := open_int Try.underlying3 (hval 2 3 v2 rfl rfl) h2
  clear hA0 hval0
  simp only [List.append_nil] at hW'
  refine (walk a0 a1 a2 w0 w1 w2 W).mono fun e W' ⟨he, hg⟩ => ?_
  subst he
  exact ⟨_, rfl, post_of_same (pa := []) (pv := []) hW' (fun _ _ _ => (trodAll_cons_mk (shut_bool Try.underlying4 _) trodAll_mk0)) (fun sp _ => (trodAll_cons_mk (shut_int Try.underlying3 w0) (trodAll_cons_mk (shut_int Try.underlying3 w1) (trodAll_cons_mk (shut_int Try.underlying3 w2) trodAll_mk0)))) (fun _ _ => rfl) rfl
    (hg.frame _) hg.2.1 (ok_one (by kernel_rfl) rfl (okWide_bool_mk Try.underlying4 _))⟩

theorem over : Rows.ringRow.holds Try.pinned (OpenSpec.ofChange Rows.ringSpec) :=
  OpenClaim.holds_of_wide 6 Try.f6 rfl rfl rfl rfl rfl rfl rfl ⟨rfl, rfl, rfl, rfl, rfl⟩ rfl rfl rfl rfl rfl (by kernel_rfl) Try.func6 (by kernel_rfl)
    (of_decide_eq_true (by kernel_rfl)) (by unfold Func.isWrapper; first | (rw [if_pos (by decide +kernel)]; kernel_rfl) | (rw [if_neg (by decide +kernel)]; exact ⟨rfl, rfl⟩))
    (fun os started H enc _ => lifted os started H enc)

theorem proved : Rows.RingSaid :=
  over
end Go.Proofs.Ytkpcmfgeanlcnaa.ring

/-
  In company: a region that draws its order, some of whose operations are calls of Go functions, and whose last operation may turn what the others have read.
-/
import Derived.Conc.CompanyMem
import Derived.Test.YtkpcmfgeanlcnabDoorGhD
import Derived.Below
import Derived.Laws.World
namespace Go.Gh
open Go.Conc

section
variable {P : Program} {main : Bool} {R : World → World → Prop} {D : World → World → Array Event → Prop} {fn : FuncId} {ops : Array Oper} {Q : Exit → Act → World → Prop} {S : World → Prop} {nf lst : Nat}

/-- Operation number i comes up: it yields a value or nothing, or it is a call by its contract (within nf steps). -/
def OpX (P : Program) (main : Bool) (R : World → World → Prop) (D : World → World → Array Event → Prop) (fn : FuncId) (ops : Array Oper) (nf i : Nat) (K : Act → World → Prop) (a : Act) (w : World) : Prop :=
  ∃ o, ops[i]? = some o ∧
    ((Region.wanted o (yielded ops a.tmps) = true ∧ ∀ w₁, R w w₁ → uponK o a (fun a' w' => D w₁ w' (listed P fn a o w₁) ∧ K a' w') ((execOp a.eval o).run P w₁)) ∨
     (Region.wanted o (yielded ops a.tmps) = true ∧ ∃ f args ats Post, o.op = .call { callee := .value (.func f), args, argTypes := ats } ∧ CallsC P main R D f (args.map a.eval) nf w Post ∧ ∀ v w', Post v w' → K (a.put o.dst v) w') ∨
     (Region.wanted o (yielded ops a.tmps) = false ∧ K (a.put o.dst undef) w))

theorem OpX.mono {i : Nat} {K K' : Act → World → Prop} {a : Act} {w : World} (hK : ∀ a w, K a w → K' a w) (h : OpX P main R D fn ops nf i K a w) : OpX P main R D fn ops nf i K' a w := by
  obtain ⟨o, ho, h⟩ := h
  refine ⟨o, ho, ?_⟩
  rcases h with ⟨hw, h⟩ | ⟨hw, f, args, ats, Post, h1, h2, h3⟩ | ⟨hw, h⟩
  · exact .inl ⟨hw, fun w₁ r => uponK_mono (fun _ _ x => ⟨x.1, hK _ _ x.2⟩) (h w₁ r)⟩
  · exact .inr (.inl ⟨hw, f, args, ats, Post, h1, h2, fun v w' p => hK _ _ (h3 v w' p)⟩)
  · exact .inr (.inr ⟨hw, hK _ _ h⟩)

/-- Whatever order is picked from here on; behind every operation but the last one, S holds. -/
def AnyX (P : Program) (main : Bool) (R : World → World → Prop) (D : World → World → Array Event → Prop) (fn : FuncId) (ops : Array Oper) (nf : Nat) (Q : Exit → Act → World → Prop) (S : World → Prop) (lst : Nat) : Nat → Array Bool → Act → World → Prop
  | 0, l, a, w => Region.ready .any ops l = [] ∧ Q .normal a w
  | k + 1, l, a, w => (Region.ready .any ops l = [] → Q .normal a w) ∧
    ∀ i ∈ Region.ready .any ops l, OpX P main R D fn ops nf i (fun a' w' => (i ≠ lst → S w') ∧ AnyX P main R D fn ops nf Q S lst k (l.setIfInBounds i true) a' w') a w

theorem opsC_of_opX (T : Terms R D) {i : Nat} {rest : List Nat} {m : Nat} {a : Act} {w : World} (h : OpX P main R D fn ops nf i (fun a' w' => OpsC P main R D fn ops rest m Q a' w') a w) : OpsC P main R D fn ops (i :: rest) (m + nf + 3) Q a w := by
  obtain ⟨o, ho, h⟩ := h
  rcases h with ⟨hw, h⟩ | ⟨hw, f, args, ats, Post, h1, h2, h3⟩ | ⟨hw, h⟩
  · exact opsC_more (opsC_cons ho hw h) (by omega)
  · exact opsC_call T ho hw h1 h2 h3
  · exact opsC_more (opsC_unwanted T ho hw h) (by omega)

/-- It serves every order that the tape can pick. -/
theorem anyX_sound (T : Terms R D) : ∀ (k t : Nat) (l : Array Bool) (a : Act) (w : World), AnyX P main R D fn ops nf Q S lst k l a w → OpsC P main R D fn ops (Region.linearise.go .any ops k t l []) (k * (nf + 3) + 1) Q a w
  | 0, t, l, a, w, h => by simpa [Region.linearise.go] using opsC_nil T h.2
  | k + 1, t, l, a, w, h => by
    obtain ⟨h0, h1⟩ := h
    have e : (k + 1) * (nf + 3) + 1 = (k * (nf + 3) + 1) + nf + 3 := by rw [Nat.succ_mul]; omega
    simp only [Region.linearise.go]
    change OpsC P main R D fn ops (match (Region.ready .any ops l)[t % (Region.ready .any ops l).length]? with
      | some i => Region.linearise.go .any ops k (t / (Region.ready .any ops l).length) (l.setIfInBounds i true) [i]
      | none => [].reverse) ((k + 1) * (nf + 3) + 1) Q a w
    cases hi : (Region.ready .any ops l)[t % (Region.ready .any ops l).length]? with
    | none =>
      have hnil : Region.ready .any ops l = [] := by
        cases hr : Region.ready .any ops l with
        | nil => rfl
        | cons x xs =>
          rw [hr, List.getElem?_eq_none_iff] at hi
          have := Nat.mod_lt t (show 0 < (x :: xs).length by simp)
          omega
      exact opsC_more (by simpa using opsC_nil T (h0 hnil)) (by omega)
    | some i =>
      simp only []
      rw [linearise_go_acc, List.reverse_singleton, List.singleton_append, e]
      exact opsC_of_opX T (OpX.mono (fun a' w' x => anyX_sound T k _ _ a' w' x.2) (h1 i (List.mem_of_getElem? hi)))

/-- An operation that yields v in every world that meets S, is apart from operation j, and j's step: they change places. -/
theorem OpX.swap {j : Nat} {oi oj : Oper} {v : Value} (hj : ops[j]? = some oj) (hap : oi.apart ops oj = true) (hsi : ∀ cs b, oi.op ≠ .select cs b) (hsj : ∀ cs b, oj.op ≠ .select cs b) {K : Act → World → Prop} {a : Act} {w : World}
    (hy : YieldsIfC P D fn ops S oi v a) (h : OpX P main R D fn ops nf j K (a.put oi.dst v) w) : OpX P main R D fn ops nf j (fun a' w' => YieldsIfC P D fn ops S oi v a' ∧ K (a'.put oi.dst v) w') a w := by
  obtain ⟨h1, h2, h3⟩ := Oper.apart_spec hap
  have keep : ∀ u, YieldsIfC P D fn ops S oi v (a.put oj.dst u) := fun u => hy.of_same (execOp_put oi hsi a oj.dst u h3) (wanted_put oi a oj.dst u h3)
  obtain ⟨o, ho, h⟩ := h
  obtain rfl : oj = o := by rw [hj] at ho; exact Option.some.inj ho
  refine ⟨oj, hj, ?_⟩
  rw [wanted_put oj a oi.dst v h1] at h
  have hex : execOp (a.put oi.dst v).eval oj = execOp a.eval oj := execOp_put oj hsj a oi.dst v h1
  rcases h with ⟨hw, h⟩ | ⟨hw, f, args, ats, Post, e1, e2, e3⟩ | ⟨hw, h⟩
  · refine .inl ⟨hw, fun w₁ r => ?_⟩
    have h := h w₁ r
    unfold listed at h ⊢
    rw [hex] at h
    generalize (execOp a.eval oj).run P w₁ = res at h ⊢
    cases res with
    | halt x w' => simp only [uponK] at h
    | ok x w' =>
      cases x <;> simp only [uponK] at h ⊢
      · rename_i u; exact ⟨h.1, keep u, by rw [← Act.put_comm a v u h2]; exact h.2⟩
      · exact ⟨h.1, keep _, by rw [← Act.put_comm a v undef h2]; exact h.2⟩
  · refine .inr (.inl ⟨hw, f, args, ats, Post, e1, ?_, fun u w' p => ⟨keep u, by rw [← Act.put_comm a v u h2]; exact e3 u w' p⟩⟩)
    have ea : args.map (a.put oi.dst v).eval = args.map a.eval := by
      refine Array.map_congr_left fun x hx => Act.eval_put fun d hd hxd => h1 d hd ?_
      subst hxd
      refine List.mem_append_left _ (List.mem_filterMap.2 ⟨.tmp d, ?_, rfl⟩)
      rw [e1]
      simp [Op.operands, Call.operands, hx]
    rw [ea] at e2
    exact e2
  · exact .inr (.inr ⟨hw, keep _, by rw [← Act.put_comm a v undef h2]; exact h⟩)

theorem YieldsIfC.opX (hSR : ∀ x y, S x → R x y → S y) {i : Nat} {o : Oper} {v : Value} {a : Act} (hi : ops[i]? = some o) (hy : YieldsIfC P D fn ops S o v a) {K : Act → World → Prop} (hK : ∀ a x y, K a x → R x y → K a y) {w : World} (hS : S w) (h : K (a.put o.dst v) w) :
    OpX P main R D fn ops nf i K a w := by
  refine ⟨o, hi, ?_⟩
  rcases hy with ⟨hw, hv⟩ | ⟨hw, rfl⟩
  · refine .inl ⟨hw, fun w₁ r => ?_⟩
    rw [(hv w₁ (hSR _ _ hS r)).1]
    exact ⟨(hv w₁ (hSR _ _ hS r)).2, hK _ _ _ h r⟩
  · exact .inr (.inr ⟨hw, h⟩)

theorem CallsC.rely (T : Terms R D) {f : FuncId} {args : Array Value} {m : Nat} {w w₁ : World} {Post : Value → World → Prop} (h : CallsC P main R D f args m w Post) (r : R w w₁) : CallsC P main R D f args m w₁ Post := by
  obtain ⟨g, c, h1, h2, h3, h4⟩ := h
  exact ⟨g, c, h1, h2, h3, wpC_rely T h4 r⟩

theorem AnyX.rely (T : Terms R D) (hSR : ∀ x y, S x → R x y → S y) (hQR : ∀ a x y, Q .normal a x → R x y → Q .normal a y) : ∀ (k : Nat) (l : Array Bool) (a : Act) (w w₁ : World), AnyX P main R D fn ops nf Q S lst k l a w → R w w₁ → AnyX P main R D fn ops nf Q S lst k l a w₁
  | 0, _, _, _, _, h, r => ⟨h.1, hQR _ _ _ h.2 r⟩
  | k + 1, l, a, w, w₁, h, r => ⟨fun e => hQR _ _ _ (h.1 e) r, fun i hi => by
      obtain ⟨o, ho, h⟩ := h.2 i hi
      refine ⟨o, ho, ?_⟩
      rcases h with ⟨hw, h⟩ | ⟨hw, f, args, ats, Post, e1, e2, e3⟩ | ⟨hw, h⟩
      · exact .inl ⟨hw, fun w₂ r₂ => h w₂ (T.trans _ _ _ r r₂)⟩
      · exact .inr (.inl ⟨hw, f, args, ats, Post, e1, CallsC.rely T e2 r, e3⟩)
      · exact .inr (.inr ⟨hw, fun hne => hSR _ _ (h.1 hne) r, AnyX.rely T hSR hQR k _ _ _ _ h.2 r⟩)⟩

/-- Whatever has come up, what it waits for has come up too. -/
def DC (ops : Array Oper) (l : Array Bool) : Prop := ∀ j o, ops[j]? = some o → l.getD j false = true → ∀ e ∈ o.after, Region.binds .any e = true → l.getD e.on false = true
theorem DC.set {l : Array Bool} (h : DC ops l) {j : Nat} (hj : j ∈ Region.ready .any ops l) : DC ops (l.setIfInBounds j true) := by
  intro m o ho hm e he hb
  by_cases hjm : j = m
  · subst hjm
    obtain ⟨_, o', ho', hall⟩ := mem_ready.1 hj
    obtain rfl : o = o' := by rw [ho] at ho'; exact Option.some.inj ho'
    exact getD_set_true (hall e he hb)
  · rw [getD_set_ne false hjm] at hm
    exact getD_set_true (h m o ho hm e he hb)
/-- Operation j waits, at one remove or more, for operation i. -/
def waitsFor (ops : Array Oper) : Nat → Nat → Nat → Bool
  | 0, _, _ => false
  | n + 1, j, i => match ops[j]? with
    | none => false
    | some o => o.after.any fun e => Region.binds .any e && (e.on == i || waitsFor ops n e.on i)
theorem waits_listed {l : Array Bool} (h : DC ops l) {i : Nat} : ∀ (n j : Nat) (o : Oper), ops[j]? = some o → (∀ e ∈ o.after, Region.binds .any e = true → l.getD e.on false = true) → waitsFor ops n j i = true → l.getD i false = true
  | 0, _, _, _, _, hw => by simp [waitsFor] at hw
  | n + 1, j, o, ho, hd, hw => by
    simp only [waitsFor, ho, Array.any_eq_true] at hw
    obtain ⟨x, hx, hw⟩ := hw
    simp only [Bool.and_eq_true, Bool.or_eq_true, beq_iff_eq] at hw
    have hon := hd _ (Array.getElem_mem hx) hw.1
    rcases hw.2 with e | e
    · rw [← e]; exact hon
    · cases ho' : ops[o.after[x].on]? with
      | none =>
        cases n with
        | zero => simp [waitsFor] at e
        | succ n => simp [waitsFor, ho'] at e
      | some o' => exact waits_listed h n _ o' ho' (h _ o' ho' hon) e

/-- An operation that may come up now may be taken first. -/
theorem anyX_first (T : Terms R D) (hSR : ∀ x y, S x → R x y → S y) (hQR : ∀ a x y, Q .normal a x → R x y → Q .normal a y) {i : Nat} {oi : Oper} {v : Value} (hi : ops[i]? = some oi) (hsel : ∀ (j : Nat) (o : Oper) cs b, ops[j]? = some o → o.op ≠ .select cs b) {nw : Nat} (hwt : waitsFor ops nw lst i = true) :
    ∀ (k : Nat) (l : Array Bool) (a : Act) (w : World), DC ops l → (∀ j oj, ops[j]? = some oj → j ≠ i → l.getD j true = false → (∀ e ∈ oj.after, Region.binds .any e = true → e.on ≠ i) → oi.apart ops oj = true) →
      i ∈ Region.ready .any ops l → YieldsIfC P D fn ops S oi v a → S w → AnyX P main R D fn ops nf Q S lst k (l.setIfInBounds i true) (a.put oi.dst v) w → AnyX P main R D fn ops nf Q S lst (k + 1) l a w := by
  have hK : ∀ j k l, ∀ a x y, ((j ≠ lst → S x) ∧ AnyX P main R D fn ops nf Q S lst k l a x) → R x y → ((j ≠ lst → S y) ∧ AnyX P main R D fn ops nf Q S lst k l a y) :=
    fun j k l a x y h r => ⟨fun hne => hSR _ _ (h.1 hne) r, AnyX.rely T hSR hQR k l a x y h.2 r⟩
  intro k
  induction k with
  | zero =>
    intro l a w _ _ hr hy hS H
    refine ⟨fun h => (by rw [h] at hr; cases hr), fun j hj => ?_⟩
    by_cases hji : j = i
    · subst hji; exact YieldsIfC.opX hSR hi hy (hK _ _ _) hS ⟨fun _ => hS, H⟩
    · have := ready_mono hj hji
      rw [H.1] at this
      cases this
  | succ k ih =>
    intro l a w hdc hfree hr hy hS H
    refine ⟨fun h => (by rw [h] at hr; cases hr), fun j hj => ?_⟩
    by_cases hji : j = i
    · subst hji; exact YieldsIfC.opX hSR hi hy (hK _ _ _) hS ⟨fun _ => hS, H⟩
    · have h1 := H.2 j (ready_mono hj hji)
      obtain ⟨hjun, oj, hoj, hall⟩ := mem_ready.1 hj
      have hir : i ∈ Region.ready .any ops (l.setIfInBounds j true) := ready_mono hr (Ne.symm hji)
      have hnot : ∀ e ∈ oj.after, Region.binds .any e = true → e.on ≠ i := fun e he hb heq => by
        have h1 := hall e he hb
        have h0 := (mem_ready.1 hr).1
        rw [heq] at h1
        rcases Nat.lt_or_ge i l.size with h' | h'
        · simp [h'] at h0 h1; rw [h0] at h1; cases h1
        · simp [Array.getElem?_eq_none h'] at h1
      have h2 := OpX.swap hoj (hfree j oj hoj hji hjun hnot) (fun cs b => hsel i oi cs b hi) (fun cs b => hsel j oj cs b hoj) hy h1
      have hfree' : ∀ m om, ops[m]? = some om → m ≠ i → (l.setIfInBounds j true).getD m true = false → (∀ e ∈ om.after, Region.binds .any e = true → e.on ≠ i) → oi.apart ops om = true := fun m om hm hmi hun hno => by
        refine hfree m om hm hmi ?_ hno
        by_cases hjm : j = m
        · subst hjm; exact hjun
        · rw [getD_set_ne true hjm] at hun; exact hun
      have hjl : j ≠ lst := by
        rintro rfl
        have h1 := waits_listed hdc nw j oj hoj hall hwt
        have h0 := (mem_ready.1 hr).1
        rcases Nat.lt_or_ge i l.size with h' | h'
        · simp [h'] at h0 h1; rw [h0] at h1; cases h1
        · simp [Array.getElem?_eq_none h'] at h1
      refine OpX.mono (fun a' w' h3 => ⟨fun _ => h3.2.1 hjl, ih (l.setIfInBounds j true) a' w' (hdc.set hj) hfree' hir h3.1 (h3.2.1 hjl) ?_⟩) h2
      rw [Array.setIfInBounds_comm _ _ hji]
      exact h3.2.2

/-- 'DC', to be reckoned. -/
def dcB (ops : Array Oper) (l : Array Bool) : Bool := (List.range ops.size).all fun j => !l.getD j false || match ops[j]? with
  | some o => o.after.all fun e => !Region.binds .any e || l.getD e.on false
  | none => true
theorem dcB_spec {l : Array Bool} (h : dcB ops l = true) : DC ops l := by
  intro j o ho hj e he hb
  simp only [dcB, List.all_eq_true, List.mem_range] at h
  have h1 := h j (Array.getElem?_eq_some_iff.1 ho).1
  simp only [hj, ho, Bool.not_true, Bool.false_or] at h1
  have h2 := Array.all_eq_true_iff_forall_mem.1 h1 e he
  simpa [hb] using h2

/-- Take number i first. -/
theorem anyX_take (T : Terms R D) (hSR : ∀ x y, S x → R x y → S y) (hQR : ∀ a x y, Q .normal a x → R x y → Q .normal a y) {i : Nat} {oi : Oper} {v : Value} {k : Nat} {l : Array Bool} {a : Act} {w : World} (hi : ops[i]? = some oi)
    (hs : Region.noSelect ops = true) (hf : Region.free .any ops l i = true) (hr : (Region.ready .any ops l).contains i = true) (hwt : waitsFor ops ops.size lst i = true) (hdc : dcB ops l = true)
    (hy : YieldsIfC P D fn ops S oi v a) (hS : S w) (h : AnyX P main R D fn ops nf Q S lst k (l.setIfInBounds i true) (a.put oi.dst v) w) : AnyX P main R D fn ops nf Q S lst (k + 1) l a w :=
  anyX_first T hSR hQR hi (Region.noSelect_spec hs) hwt k l a w (dcB_spec hdc) (Region.free_spec hi hf) (by simpa using hr) hy hS h

/-- One alone may come up now. -/
theorem anyX_one {i : Nat} {k : Nat} {l : Array Bool} {a : Act} {w : World} (hr : Region.ready .any ops l = [i]) (h : OpX P main R D fn ops nf i (fun a' w' => (i ≠ lst → S w') ∧ AnyX P main R D fn ops nf Q S lst k (l.setIfInBounds i true) a' w') a w) :
    AnyX P main R D fn ops nf Q S lst (k + 1) l a w :=
  ⟨fun h0 => absurd (hr.symm.trans h0) (by simp), fun j hj => by
    rw [hr] at hj
    obtain rfl : j = i := by simpa using hj
    exact h⟩

/-- All have come up. -/
theorem anyX_done {l : Array Bool} {a : Act} {w : World} (hr : Region.ready .any ops l = []) (h : Q .normal a w) : ∀ k, AnyX P main R D fn ops nf Q S lst k l a w
  | 0 => ⟨hr, h⟩
  | _ + 1 => ⟨fun _ => h, fun i hi => by rw [hr] at hi; cases hi⟩

/-- The beginning. -/
theorem wpC_region_any (T : Terms R D) (hd : LetsDraw D) {id : Nat} {a : Act} {w : World} (hm : P.follows .mixedOrders = true)
    (h : ∀ w₁, R w w₁ → AnyX P main R D fn ops nf Q S lst ops.size (Array.replicate ops.size false) a { w₁ with drawn := w₁.drawn + 1 }) : (Code.region id ops true).wpC P main R D fn (ops.size * (nf + 3) + 1 + 1) Q a w :=
  wpC_region_draw hd fun w₁ h₁ t => by
    simp only [Region.schedule, hm, Bool.true_or, if_true]
    exact anyX_sound T ops.size t _ a _ (h w₁ h₁)
theorem dc_start (m : Nat) : DC ops (Array.replicate m false) := fun j o _ hj => by
  simp [Array.getElem?_replicate] at hj
  split at hj <;> simp at hj
end
end Go.Gh

/-
  In company: a callee's contract whose results may lie in a variable; what a callee that only makes memory leaves to its caller.
-/
namespace Go.Gh
open Go.Conc Go.ConcN Go.RowKit
open Go.ConcR (Payload)

section
variable {P : Program} {main : Bool} {R : World → World → Prop} {D : World → World → Array Event → Prop}

theorem stepG_leaveE {b : Frame} {a : Act} {cs : List Frame} {w : World} {fn : Func} {todo : List Item} {c : Frame} {v : Value} (hn : b.kind = .normal) (hd : a.defers = []) (hf : P.funcs[b.fn]? = some fn) (hr : (results fn a.tmps).run P w = .ok v w) :
    stepG P main (G { b.at a todo with mode := .returning } (c :: cs)) w = .go (G (c.finish v) cs) w (seen P b.fn ((results fn a.tmps).events P w #[])) := by
  simp [G, stepG, unwind, doReturn, Frame.at, hn, hd, hf, hr, GStep.after]

/-- Entered with these arguments, in company, f comes back within n own steps, with a value and in a world that satisfy Post. -/
def CallsG (P : Program) (main : Bool) (R : World → World → Prop) (D : World → World → Array Event → Prop) (f : FuncId) (args : Array Value) (n : Nat) (w : World) (Post : Value → World → Prop) : Prop :=
  ∃ fn c, P.funcs[f]? = some fn ∧ (fn.name == "runtime.NumGoroutine") = false ∧ fn.body = some c ∧
    ∀ (b : Frame) (a : Act) (k : List Item) (cs : List Frame) (ops : Array Oper) (i : Nat) (rest : List Nat) (Stop : Goroutine → World → Prop) (m : Nat),
      (∀ v w', Post v w' → Goes P main R D Stop m (G (b.at (a.put ((ops[i]?).bind (·.dst)) v) (.inRegion ops rest :: k)) cs) w') →
      Goes P main R D Stop (m + n) (G ((base f).at { tmps := args ++ Array.replicate (fn.ntmps - args.size) undef, defers := [] } [.code c]) (b.at a (.inRegion ops (i :: rest) :: k) :: cs)) w

theorem callsG_of_wpC (T : Terms R D) {f : FuncId} {fn : Func} {c : Code} {args : Array Value} {n : Nat} {w : World} {Post : Value → World → Prop} {Q : Act → World → Prop} (hf : P.funcs[f]? = some fn) (hname : (fn.name == "runtime.NumGoroutine") = false) (hb : fn.body = some c)
    (hq : ∀ a' w', Q a' w' → a'.defers = [] ∧ ∀ w₁, R w' w₁ → ∃ v, (results fn a'.tmps).run P w₁ = .ok v w₁ ∧ D w₁ w₁ (seen P f ((results fn a'.tmps).events P w₁ #[])) ∧ Post v w₁)
    (h : c.wpC P main R D f n (fun e a' w' => match e with | .ret | .normal => Q a' w' | _ => False) { tmps := args ++ Array.replicate (fn.ntmps - args.size) undef, defers := [] } w) : CallsG P main R D f args (n + 2) w Post := by
  refine ⟨fn, c, hf, hname, hb, fun b a k cs ops i rest Stop m hK => ?_⟩
  have hleave : ∀ (a' : Act) (w' : World) (todo : List Item), Q a' w' → Goes P main R D Stop (m + 1) (G { (base f).at a' todo with mode := .returning } (b.at a (.inRegion ops (i :: rest) :: k) :: cs)) w' := by
    intro a' w' todo hQ
    obtain ⟨hd, hr⟩ := hq a' w' hQ
    refine Goes.step rfl fun w₁ h₁ => ?_
    obtain ⟨v, h1, h2, h3⟩ := hr w₁ h₁
    rw [stepG_leaveE (b := base f) rfl hd hf h1, Frame.finish_at]
    exact ⟨h2, hK v w₁ h3⟩
  have := h (base f) [] (b.at a (.inRegion ops (i :: rest) :: k) :: cs) Stop (m + 2) rfl (by simp [base]) fun e a' w' q => by
    cases e with
    | normal => exact Goes.step rfl fun w₁ h₁ => by rw [stepG_end]; exact ⟨T.idle _, (hleave a' w' [] q).rely T.trans h₁⟩
    | ret => exact fun todo => (hleave a' w' todo q).more
    | exit id => exact q.elim
    | goto l => exact q.elim
    | panic ch => exact q.elim
    | outgrown => exact q.elim
  exact this.mono (by omega)

theorem opsC_callG (T : Terms R D) {fn : FuncId} {Q : Exit → Act → World → Prop} {a : Act} {w : World} {ops : Array Oper} {i : Nat} {rest : List Nat} {o : Oper} {f : FuncId} {args : Array Operand} {ats : Array TypeId} {nf n : Nat} {Post : Value → World → Prop}
    (ho : ops[i]? = some o) (hw : Region.wanted o (yielded ops a.tmps) = true) (hop : o.op = .call { callee := .value (.func f), args, argTypes := ats })
    (hcall : CallsG P main R D f (args.map a.eval) nf w Post) (hnext : ∀ v w', Post v w' → OpsC P main R D fn ops rest n Q (a.put o.dst v) w') : OpsC P main R D fn ops (i :: rest) (n + nf + 1) Q a w := by
  intro b k cs Stop m hb hk hc
  obtain ⟨g, c, hf, hname, hbody, hG⟩ := hcall
  have := hG b a k cs ops i rest Stop (m + n) (fun v w' p => by rw [ho]; exact hnext v w' p b k cs Stop m hb hk hc)
  have e : m + (n + nf + 1) = (m + n + nf) + 1 := by omega
  rw [e]
  exact Goes.step rfl fun w₁ h₁ => goes_call ho hw hk hop hf hname hbody ⟨T.idle _, this.rely T.trans h₁⟩
end

section
variable [Payload] (Wg C n B : Nat) (Cl S : Nat → Prop)
/-- What a call leaves to its caller: the caller's own blocks stand but those of S; what is below B stands; its cells stand; nothing that was its own is lost. -/
structure Ex (w w' : World) : Prop where
  size : w.heap.size ≤ w'.heap.size
  tape : w'.tape = w.tape
  os : w'.os = w.os
  tag : tagOf w ≤ w.heap.size → tagOf w' ≤ w'.heap.size
  own : ∀ b, Mine w b → Mine w' b
  mine : ∀ b, Mine w b → ¬ S b → w'.heap[b]? = w.heap[b]?
  low : ∀ b, b < B → b ≠ Wg → b ≠ C → w'.heap[b]? = w.heap[b]?
  cell : ∀ i, Cl i → w'.cell? ⟨C, i, none⟩ = w.cell? ⟨C, i, none⟩
  pay : PayAt C n w → PayAt C n w'
end
section
variable [Payload] {Wg C n B : Nat} {Cl S : Nat → Prop} {w w' w₁ : World}
theorem Ex.refl (w : World) : Ex Wg C n B Cl S w w := ⟨Nat.le_refl _, rfl, rfl, id, fun _ => id, fun _ _ _ => rfl, fun _ _ _ _ => rfl, fun _ _ => rfl, id⟩
theorem Ex.trans (h : Ex Wg C n B Cl S w w') (h' : Ex Wg C n B Cl S w' w₁) : Ex Wg C n B Cl S w w₁ :=
  ⟨Nat.le_trans h.size h'.size, h'.tape.trans h.tape, h'.os.trans h.os, h'.tag ∘ h.tag, fun b x => h'.own b (h.own b x), fun b x y => (h'.mine b (h.own b x) y).trans (h.mine b x y), fun b x y z => (h'.low b x y z).trans (h.low b x y z),
    fun i x => (h'.cell i x).trans (h.cell i x), h'.pay ∘ h.pay⟩
theorem Ex.weaken {S' : Nat → Prop} (h : Ex Wg C n B Cl S w w') (hs : ∀ b, S b → S' b) : Ex Wg C n B Cl S' w w' :=
  ⟨h.size, h.tape, h.os, h.tag, h.own, fun b x y => h.mine b x fun z => y (hs b z), h.low, h.cell, h.pay⟩
theorem Ro.ex (h : Ro Wg C n B Cl w w') : Ex Wg C n B Cl S w w' :=
  ⟨h.size, h.tape, h.os, fun _ => Nat.le_of_eq h.tag, fun b x => (h.mineAt b).2 x, fun b x _ => h.mine b x, h.low, h.cell, h.pay⟩
theorem Ex.rely (h : Ex Wg C n B Cl S w w') (r : Ro Wg C n B Cl w' w₁) : Ex Wg C n B Cl S w w₁ := h.trans r.ex
theorem termsG [OldG] : Terms (Ro Wg C n B Cl) (Dg Wg C n B Cl) := ⟨fun _ _ _ a b => Ro.trans a b, fun w => Dg.idle w⟩
theorem drawG [OldG] : LetsDraw (Dg Wg C n B Cl) := fun w => ⟨Nat.le_refl _, rfl, rfl, fun _ _ _ _ => rfl, fun _ _ => rfl, id, by simp⟩
omit [Payload] in
theorem mine_grow (ho : w'.output = w.output) (hs : w.heap.size ≤ w'.heap.size) {b : Nat} (h : Mine w b) : Mine w' b := by
  unfold Mine ownOf tagOf at *
  rw [ho]
  exact h.imp id fun x => ⟨x.1, by omega⟩
omit [Payload] in
theorem tag_same (ho : w'.output = w.output) : tagOf w' = tagOf w := by unfold tagOf; rw [ho]
omit [Payload] in
theorem mine_fresh (ho : w'.output = w.output) (ht : tagOf w ≤ w.heap.size) {b : Nat} (h1 : w.heap.size ≤ b) (h2 : b < w'.heap.size) : Mine w' b := by
  refine .inr ⟨?_, h2⟩
  rw [tag_same ho]
  omega

omit [Payload] in
theorem sz_alloc (w : World) (o : Obj) : (w.alloc o).heap.size = w.heap.size + 1 := Array.size_push ..
omit [Payload] in
theorem sz_set (w : World) (a : Addr) (v : Value) : (w.setCell a v).heap.size = w.heap.size := by simp [World.setCell]
omit [Payload] in
theorem mine_lt (ht : ∀ b ∈ ownOf w, b < w.heap.size) {b : Nat} (h : Mine w b) : b < w.heap.size := h.elim (ht b) (·.2)

/-- To make a block. -/
theorem Ex.alloc (hC : C < w.heap.size) (hB : B ≤ w.heap.size) (hm : ∀ b, Mine w b → b < w.heap.size) (o : Obj) : Ex Wg C n B Cl S w (w.alloc o) :=
  ⟨by rw [sz_alloc]; omega, rfl, rfl, fun h => by rw [tag_same (w := w) (w' := w.alloc o) rfl, sz_alloc]; omega, fun b h => mine_grow (w := w) (w' := w.alloc o) rfl (by rw [sz_alloc]; omega) h, fun b h _ => Below.heap_alloc _ _ _ (hm b h), fun b h _ _ => Below.heap_alloc _ _ _ (by omega),
    fun i _ => World.cell?_alloc_lt _ _ _ hC, fun ⟨cs, h1, h2⟩ => ⟨cs, (Below.heap_alloc _ _ _ hC).trans h1, h2⟩⟩
theorem dg_alloc [OldG] (hC : C < w.heap.size) (o : Obj) {es : Array Event} (he : es = #[]) : Dg Wg C n B Cl w (w.alloc o) es := by
  subst he
  exact ⟨by rw [sz_alloc]; omega, rfl, rfl, fun b h _ _ => Below.heap_alloc _ _ _ h, fun i _ => World.cell?_alloc_lt _ _ _ hC, fun ⟨cs, h1, h2⟩ => ⟨cs, (Below.heap_alloc _ _ _ hC).trans h1, h2⟩, by simp⟩
/-- To write one cell of an own block. -/
theorem Ex.set {a : Addr} {v : Value} (hne : a.block ≠ C) (hS : S a.block) (hl : ¬ (a.block < B ∧ a.block ≠ Wg)) : Ex Wg C n B Cl S w (w.setCell a v) :=
  ⟨by rw [sz_set]; omega, rfl, rfl, fun h => by rw [tag_same (w := w) (w' := w.setCell a v) rfl, sz_set]; exact h, fun b h => mine_grow (w := w) (w' := w.setCell a v) rfl (by rw [sz_set]; omega) h, fun b _ h => Below.heap_setCell _ _ _ _ (fun e => h (e ▸ hS)), fun b h1 h2 _ => Below.heap_setCell _ _ _ _ (fun e => hl (by rw [← e]; exact ⟨h1, h2⟩)),
    fun i _ => World.cell?_setCell_other _ _ _ _ (fun e => hne (by rw [e])), fun ⟨cs, h1, h2⟩ => ⟨cs, (Below.heap_setCell _ _ _ _ (Ne.symm hne)).trans h1, h2⟩⟩
theorem dg_set [OldG] {a : Addr} {v : Value} (hm : Mine w a.block) (hne : a.block ≠ C) (ha : a.block < w.heap.size) {es : Array Event} (he : ∀ e ∈ es, ∃ b wr, e = ⟨.cell b, wr, false⟩ ∧ b.block = a.block) : Dg Wg C n B Cl w (w.setCell a v) es := by
  refine ⟨by rw [sz_set]; omega, rfl, rfl, fun b _ hb _ => Below.heap_setCell _ _ _ _ (fun e => hb (e ▸ hm)), fun i _ => World.cell?_setCell_other _ _ _ _ (fun e => hne (by rw [e])), fun ⟨cs, h1, h2⟩ => ⟨cs, (Below.heap_setCell _ _ _ _ (Ne.symm hne)).trans h1, h2⟩, fun e he' => ?_⟩
  obtain ⟨b, wr, rfl, hb⟩ := he e he'
  exact ⟨b, wr, rfl, by rw [sz_set]; omega, .inl (by rw [hb]; exact hm)⟩
variable [OldG]
/-- To read what may be read. -/
def Rdb (Wg C B : Nat) (w : World) (b : Nat) : Prop := Mine w b ∨ (b < B ∧ b ≠ Wg ∧ b ≠ C ∧ ¬ OldG.old b)
theorem dg_read {b : Nat} (hr : Rdb Wg C B w b) (hb : b < w.heap.size) {es : Array Event} (he : ∀ e ∈ es, ∃ a : Addr, e = ⟨.cell a, false, false⟩ ∧ a.block = b) : Dg Wg C n B Cl w w es := by
  refine ⟨Nat.le_refl _, rfl, rfl, fun _ _ _ _ => rfl, fun _ _ => rfl, id, fun e he' => ?_⟩
  obtain ⟨a, rfl, ha⟩ := he e he'
  exact ⟨a, false, rfl, by omega, hr.elim (fun x => .inl (by rw [ha]; exact x)) fun x => .inr (.inr (.inr (by rw [ha]; exact ⟨x.1, x.2.1, x.2.2.1, rfl, x.2.2.2⟩)))⟩
theorem Ex.rdb (h : Ex Wg C n B Cl S w w') {b : Nat} (hr : Rdb Wg C B w b) : Rdb Wg C B w' b := hr.imp (h.own b) id
/-- What may be read stands. -/
theorem Ex.stands (h : Ex Wg C n B Cl S w w') {b : Nat} (hr : Rdb Wg C B w b) (hS : ¬ S b) : w'.heap[b]? = w.heap[b]? := hr.elim (fun x => h.mine b x hS) fun x => h.low b x.1 x.2.1 x.2.2.1
end
end Go.Gh

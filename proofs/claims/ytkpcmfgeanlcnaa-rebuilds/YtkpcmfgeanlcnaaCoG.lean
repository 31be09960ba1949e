/-
  In company: a callee's contract whose results may lie in a variable; what a callee that only makes memory leaves to its caller.
-/
import Derived.Test.YtkpcmfgeanlcnaaDrX
import Derived.Test.YtkpcmfgeanlcnaaGhD
import Derived.Below
import Derived.Laws.World
namespace Go.Gh
open Go.Conc Go.ConcN Go.RowKit
open Go.ConcR (Payload)

section
variable {P : Program} {main : Bool} {R : World → World → Prop} {D : World → World → Array Event → Prop}

theorem stepG_leaveE {b : Frame} {a : Act} {cs : List Frame} {w : World} {fn : Func} {todo : List Item} {c : Frame} {v : Value} (hn : b.kind = .normal) (hd : a.defers = []) (hf : P.funcs[b.fn]? = some fn) (hr : (results fn a.tmps).run P w = .ok v w) :
    stepG P main (G { b.at a todo with mode := .returning } (c :: cs)) w = .go (G (c.finish v) cs) w (seen P b.fn ((results fn a.tmps).events P w #[])) := by
  simp [G, stepG, unwind, doReturn, Frame.at, hn, hd, hf, hr, GStep.after]

/-- Entered with these arguments, in company, f comes back within n own steps, with a value and in a world that satisfy Post. -/
def CallsG (P : Program) (main : Bool) (R : World → World → Prop) (D : World → World → Array Event → Prop) (f : FuncId) (args : Array Value) (n : Nat) (w : World) (Post : Value → World → Prop) : Prop :=
  ∃ fn c, P.funcs[f]? = some fn ∧ (fn.name == "runtime.NumGoroutine") = false ∧ fn.body = some c ∧
    ∀ (b : Frame) (a : Act) (k : List Item) (cs : List Frame) (ops : Array Oper) (i : Nat) (rest : List Nat) (Stop : Goroutine → World → Prop) (m : Nat),
      (∀ v w', Post v w' → Goes P main R D Stop m (G (b.at (a.put ((ops[i]?).bind (·.dst)) v) (.inRegion ops rest :: k)) cs) w') →
      Goes P main R D Stop (m + n) (G ((base f).at { tmps := args ++ Array.replicate (fn.ntmps - args.size) undef, defers := [] } [.code c]) (b.at a (.inRegion ops (i :: rest) :: k) :: cs)) w

theorem callsG_of_wpC (T : Terms R D) {f : FuncId} {fn : Func} {c : Code} {args : Array Value} {n : Nat} {w : World} {Post : Value → World → Prop} {Q : Act → World → Prop} (hf : P.funcs[f]? = some fn) (hname : (fn.name == "runtime.NumGoroutine") = false) (hb : fn.body = some c)
    (hq : ∀ a' w', Q a' w' → a'.defers = [] ∧ ∀ w₁, R w' w₁ → ∃ v, (results fn a'.tmps).run P w₁ = .ok v w₁ ∧ D w₁ w₁ (seen P f ((results fn a'.tmps).events P w₁ #[])) ∧ Post v w₁)
    (h : c.wpC P main R D f n (fun e a' w' => match e with | .ret | .normal => Q a' w' | _ => False) { tmps := args ++ Array.replicate (fn.ntmps - args.size) undef, defers := [] } w) : CallsG P main R D f args (n + 2) w Post := by
  refine ⟨fn, c, hf, hname, hb, fun b a k cs ops i rest Stop m hK => ?_⟩
  have hleave : ∀ (a' : Act) (w' : World) (todo : List Item), Q a' w' → Goes P main R D Stop (m + 1) (G { (base f).at a' todo with mode := .returning } (b.at a (.inRegion ops (i :: rest) :: k) :: cs)) w' := by
    intro a' w' todo hQ
    obtain ⟨hd, hr⟩ := hq a' w' hQ
    refine Goes.step rfl fun w₁ h₁ => ?_
    obtain ⟨v, h1, h2, h3⟩ := hr w₁ h₁
    rw [stepG_leaveE (b := base f) rfl hd hf h1, Frame.finish_at]
    exact ⟨h2, hK v w₁ h3⟩
  have := h (base f) [] (b.at a (.inRegion ops (i :: rest) :: k) :: cs) Stop (m + 2) rfl (by simp [base]) fun e a' w' q => by
    cases e with
    | normal => exact Goes.step rfl fun w₁ h₁ => by rw [stepG_end]; exact ⟨T.idle _, (hleave a' w' [] q).rely T.trans h₁⟩
    | ret => exact fun todo => (hleave a' w' todo q).more
    | exit id => exact q.elim
    | goto l => exact q.elim
    | panic ch => exact q.elim
    | outgrown => exact q.elim
  exact this.mono (by omega)

theorem opsC_callG (T : Terms R D) {fn : FuncId} {Q : Exit → Act → World → Prop} {a : Act} {w : World} {ops : Array Oper} {i : Nat} {rest : List Nat} {o : Oper} {f : FuncId} {args : Array Operand} {ats : Array TypeId} {nf n : Nat} {Post : Value → World → Prop}
    (ho : ops[i]? = some o) (hw : Region.wanted o (yielded ops a.tmps) = true) (hop : o.op = .call { callee := .value (.func f), args, argTypes := ats })
    (hcall : CallsG P main R D f (args.map a.eval) nf w Post) (hnext : ∀ v w', Post v w' → OpsC P main R D fn ops rest n Q (a.put o.dst v) w') : OpsC P main R D fn ops (i :: rest) (n + nf + 1) Q a w := by
  intro b k cs Stop m hb hk hc
  obtain ⟨g, c, hf, hname, hbody, hG⟩ := hcall
  have := hG b a k cs ops i rest Stop (m + n) (fun v w' p => by rw [ho]; exact hnext v w' p b k cs Stop m hb hk hc)
  have e : m + (n + nf + 1) = (m + n + nf) + 1 := by omega
  rw [e]
  exact Goes.step rfl fun w₁ h₁ => goes_call ho hw hk hop hf hname hbody ⟨T.idle _, this.rely T.trans h₁⟩
end

section
variable [Payload] (Wg C n B : Nat) (Cl S : Nat → Prop)
/-- What a call leaves to its caller: the caller's own blocks stand but those of S; what is below B stands; its cells stand; nothing that was its own is lost. -/
structure Ex (w w' : World) : Prop where
  size : w.heap.size ≤ w'.heap.size
  tape : w'.tape = w.tape
  os : w'.os = w.os
  tag : tagOf w ≤ w.heap.size → tagOf w' ≤ w'.heap.size
  own : ∀ b, Mine w b → Mine w' b
  mine : ∀ b, Mine w b → ¬ S b → w'.heap[b]? = w.heap[b]?
  low : ∀ b, b < B → b ≠ Wg → b ≠ C → w'.heap[b]? = w.heap[b]?
  cell : ∀ i, Cl i → w'.cell? ⟨C, i, none⟩ = w.cell? ⟨C, i, none⟩
  pay : PayAt C n w → PayAt C n w'
end
section
variable [Payload] {Wg C n B : Nat} {Cl S : Nat → Prop} {w w' w₁ : World}
theorem Ex.refl (w : World) : Ex Wg C n B Cl S w w := ⟨Nat.le_refl _, rfl, rfl, id, fun _ => id, fun _ _ _ => rfl, fun _ _ _ _ => rfl, fun _ _ => rfl, id⟩
theorem Ex.trans (h : Ex Wg C n B Cl S w w') (h' : Ex Wg C n B Cl S w' w₁) : Ex Wg C n B Cl S w w₁ :=
  ⟨Nat.le_trans h.size h'.size, h'.tape.trans h.tape, h'.os.trans h.os, h'.tag ∘ h.tag, fun b x => h'.own b (h.own b x), fun b x y => (h'.mine b (h.own b x) y).trans (h.mine b x y), fun b x y z => (h'.low b x y z).trans (h.low b x y z),
    fun i x => (h'.cell i x).trans (h.cell i x), h'.pay ∘ h.pay⟩
theorem Ex.weaken {S' : Nat → Prop} (h : Ex Wg C n B Cl S w w') (hs : ∀ b, S b → S' b) : Ex Wg C n B Cl S' w w' :=
  ⟨h.size, h.tape, h.os, h.tag, h.own, fun b x y => h.mine b x fun z => y (hs b z), h.low, h.cell, h.pay⟩
theorem Ro.ex (h : Ro Wg C n B Cl w w') : Ex Wg C n B Cl S w w' :=
  ⟨h.size, h.tape, h.os, fun _ => Nat.le_of_eq h.tag, fun b x => (h.mineAt b).2 x, fun b x _ => h.mine b x, h.low, h.cell, h.pay⟩
theorem Ex.rely (h : Ex Wg C n B Cl S w w') (r : Ro Wg C n B Cl w' w₁) : Ex Wg C n B Cl S w w₁ := h.trans r.ex
theorem termsG : Terms (Ro Wg C n B Cl) (Dg Wg C n B Cl) := ⟨fun _ _ _ a b => Ro.trans a b, fun w => Dg.idle w⟩
theorem drawG : LetsDraw (Dg Wg C n B Cl) := fun w => ⟨Nat.le_refl _, rfl, rfl, fun _ _ _ _ => rfl, fun _ _ => rfl, id, by simp⟩
omit [Payload] in
theorem mine_grow (ho : w'.output = w.output) (hs : w.heap.size ≤ w'.heap.size) {b : Nat} (h : Mine w b) : Mine w' b := by
  unfold Mine ownOf tagOf at *
  rw [ho]
  exact h.imp id fun x => ⟨x.1, by omega⟩
omit [Payload] in
theorem tag_same (ho : w'.output = w.output) : tagOf w' = tagOf w := by unfold tagOf; rw [ho]
omit [Payload] in
theorem mine_fresh (ho : w'.output = w.output) (ht : tagOf w ≤ w.heap.size) {b : Nat} (h1 : w.heap.size ≤ b) (h2 : b < w'.heap.size) : Mine w' b := by
  refine .inr ⟨?_, h2⟩
  rw [tag_same ho]
  omega

omit [Payload] in
theorem sz_alloc (w : World) (o : Obj) : (w.alloc o).heap.size = w.heap.size + 1 := Array.size_push ..
omit [Payload] in
theorem sz_set (w : World) (a : Addr) (v : Value) : (w.setCell a v).heap.size = w.heap.size := by simp [World.setCell]
omit [Payload] in
theorem mine_lt (ht : ∀ b ∈ ownOf w, b < w.heap.size) {b : Nat} (h : Mine w b) : b < w.heap.size := h.elim (ht b) (·.2)

/-- To make a block. -/
theorem Ex.alloc (hC : C < w.heap.size) (hB : B ≤ w.heap.size) (hm : ∀ b, Mine w b → b < w.heap.size) (o : Obj) : Ex Wg C n B Cl S w (w.alloc o) :=
  ⟨by rw [sz_alloc]; omega, rfl, rfl, fun h => by rw [tag_same (w := w) (w' := w.alloc o) rfl, sz_alloc]; omega, fun b h => mine_grow (w := w) (w' := w.alloc o) rfl (by rw [sz_alloc]; omega) h, fun b h _ => Below.heap_alloc _ _ _ (hm b h), fun b h _ _ => Below.heap_alloc _ _ _ (by omega),
    fun i _ => World.cell?_alloc_lt _ _ _ hC, fun ⟨cs, h1, h2⟩ => ⟨cs, (Below.heap_alloc _ _ _ hC).trans h1, h2⟩⟩
theorem dg_alloc (hC : C < w.heap.size) (o : Obj) {es : Array Event} (he : es = #[]) : Dg Wg C n B Cl w (w.alloc o) es := by
  subst he
  exact ⟨by rw [sz_alloc]; omega, rfl, rfl, fun b h _ _ => Below.heap_alloc _ _ _ h, fun i _ => World.cell?_alloc_lt _ _ _ hC, fun ⟨cs, h1, h2⟩ => ⟨cs, (Below.heap_alloc _ _ _ hC).trans h1, h2⟩, by simp⟩
/-- To write one cell of an own block. -/
theorem Ex.set {a : Addr} {v : Value} (hne : a.block ≠ C) (hS : S a.block) (hl : ¬ (a.block < B ∧ a.block ≠ Wg)) : Ex Wg C n B Cl S w (w.setCell a v) :=
  ⟨by rw [sz_set]; omega, rfl, rfl, fun h => by rw [tag_same (w := w) (w' := w.setCell a v) rfl, sz_set]; exact h, fun b h => mine_grow (w := w) (w' := w.setCell a v) rfl (by rw [sz_set]; omega) h, fun b _ h => Below.heap_setCell _ _ _ _ (fun e => h (e ▸ hS)), fun b h1 h2 _ => Below.heap_setCell _ _ _ _ (fun e => hl (by rw [← e]; exact ⟨h1, h2⟩)),
    fun i _ => World.cell?_setCell_other _ _ _ _ (fun e => hne (by rw [e])), fun ⟨cs, h1, h2⟩ => ⟨cs, (Below.heap_setCell _ _ _ _ (Ne.symm hne)).trans h1, h2⟩⟩
theorem dg_set {a : Addr} {v : Value} (hm : Mine w a.block) (hne : a.block ≠ C) (ha : a.block < w.heap.size) {es : Array Event} (he : ∀ e ∈ es, ∃ b wr, e = ⟨.cell b, wr, false⟩ ∧ b.block = a.block) : Dg Wg C n B Cl w (w.setCell a v) es := by
  refine ⟨by rw [sz_set]; omega, rfl, rfl, fun b _ hb _ => Below.heap_setCell _ _ _ _ (fun e => hb (e ▸ hm)), fun i _ => World.cell?_setCell_other _ _ _ _ (fun e => hne (by rw [e])), fun ⟨cs, h1, h2⟩ => ⟨cs, (Below.heap_setCell _ _ _ _ (Ne.symm hne)).trans h1, h2⟩, fun e he' => ?_⟩
  obtain ⟨b, wr, rfl, hb⟩ := he e he'
  exact ⟨b, wr, rfl, by rw [sz_set]; omega, .inl (by rw [hb]; exact hm)⟩
/-- To read what may be read. -/
def Rdb (Wg C B : Nat) (w : World) (b : Nat) : Prop := Mine w b ∨ (b < B ∧ b ≠ Wg ∧ b ≠ C)
theorem dg_read {b : Nat} (hr : Rdb Wg C B w b) (hb : b < w.heap.size) {es : Array Event} (he : ∀ e ∈ es, ∃ a : Addr, e = ⟨.cell a, false, false⟩ ∧ a.block = b) : Dg Wg C n B Cl w w es := by
  refine ⟨Nat.le_refl _, rfl, rfl, fun _ _ _ _ => rfl, fun _ _ => rfl, id, fun e he' => ?_⟩
  obtain ⟨a, rfl, ha⟩ := he e he'
  exact ⟨a, false, rfl, by omega, hr.elim (fun x => .inl (by rw [ha]; exact x)) fun x => .inr (.inr (.inr (by rw [ha]; exact ⟨x.1, x.2.1, x.2.2, rfl⟩)))⟩
theorem Ex.rdb (h : Ex Wg C n B Cl S w w') {b : Nat} (hr : Rdb Wg C B w b) : Rdb Wg C B w' b := hr.imp (h.own b) id
/-- What may be read stands. -/
theorem Ex.stands (h : Ex Wg C n B Cl S w w') {b : Nat} (hr : Rdb Wg C B w b) (hS : ¬ S b) : w'.heap[b]? = w.heap[b]? := hr.elim (fun x => h.mine b x hS) fun x => h.low b x.1 x.2.1 x.2.2
end
end Go.Gh

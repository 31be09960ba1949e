/-
  A world with its windows shut, and some rows of cells emptied: those of the old groups.
-/
import Derived.Test.YtkpcmfgeanlcnabDoorSvR
import Derived.Test.YtkpcmfgeanlcnabDoorLfO
namespace Go.Lf
open Go.Conc Go.Gh Go.RowKit
open Classical

/-- The world with its windows shut, and some rows of cells emptied. -/
noncomputable def fixX (X : Nat → Prop) (b : Nat) (o : Obj) : Obj := if X b then empt o else if isGh o then shut o else o
theorem doctorX (w : World) (X : Nat → Prop) (h : ∀ b, X b → ∃ cs t, w.heap[b]? = some (.cells cs t (0, 0))) :
    ∃ (Y : Nat → Option Obj) (v : World), Sim X Y w v ∧ (∀ b c t fr, ¬ X b → w.heap[b]? = some (.cells c t fr) → v.heap[b]? = some (.cells c t fr)) := by
  let Y : Nat → Option Obj := fun b => if X b then none else (w.heap[b]?).bind fun o => if isGh o then some o else none
  have hget : ∀ b, (w.heap.mapIdx (fixX X))[b]? = (w.heap[b]?).map (fixX X b) := fun b => by simp
  have hY : ∀ b o, Y b = some o → ¬ X b ∧ w.heap[b]? = some o ∧ isGh o = true := fun b o hy => by
    simp only [Y] at hy
    split at hy
    · cases hy
    · rename_i hne
      cases hb : w.heap[b]? with
      | none => rw [hb] at hy; cases hy
      | some o' =>
        rw [hb] at hy
        simp only [Option.bind_some] at hy
        split at hy
        · rename_i hg
          cases hy
          exact ⟨hne, rfl, hg⟩
        · cases hy
  refine ⟨Y, { w with heap := w.heap.mapIdx (fixX X) }, ⟨by simp, fun b hb => ?_, fun b hx hy => ?_, fun b o hy => ?_, fun b hx => ?_, fun b o hb => ?_, rfl, rfl, fun _ _ => rfl, fun b cs t fr hx hb => ?_⟩, fun b c t fr hx hb => ?_⟩
  · rcases hb with hb | hb
    · obtain ⟨cs, t, hc⟩ := h b hb
      simpa using (Array.getElem?_eq_some_iff.1 hc).1
    · obtain ⟨o, ho⟩ := Option.isSome_iff_exists.1 hb
      simpa using (Array.getElem?_eq_some_iff.1 (hY b o ho).2.1).1
  · show w.heap[b]? = (w.heap.mapIdx (fixX X))[b]?
    rw [hget]
    cases hb : w.heap[b]? with
    | none => rfl
    | some o =>
      simp only [Y, if_neg hx, hb, Option.bind_some] at hy
      have hg : isGh o = false := by
        cases hg : isGh o with
        | false => rfl
        | true => rw [hg] at hy; cases hy
      simp only [Option.map_some, fixX, if_neg hx, hg, Bool.false_eq_true, if_false]
  · obtain ⟨h1, h2, h3⟩ := hY b o hy
    refine ⟨shut o, h2, ?_, isGh_yes h3⟩
    show (w.heap.mapIdx (fixX X))[b]? = _
    rw [hget, h2]
    simp only [Option.map_some, fixX, if_neg h1, h3, if_true]
  · obtain ⟨cs, t, hc⟩ := h b hx
    refine ⟨cs, t, (0, 0), hc, ?_⟩
    show (w.heap.mapIdx (fixX X))[b]? = _
    rw [hget, hc]
    simp only [Option.map_some, fixX, if_pos hx, empt]
  · change (w.heap.mapIdx (fixX X))[b]? = some o at hb
    rw [hget] at hb
    obtain ⟨o', h1, rfl⟩ := Option.map_eq_some_iff.1 hb
    unfold fixX
    split
    · rename_i hx
      obtain ⟨cs, t, hc⟩ := h b hx
      rw [h1] at hc
      cases hc
      trivial
    · split
      · rename_i hg
        exact (isGh_yes hg).nv
      · rename_i hg
        exact isGh_no (by simpa using hg)
  · change (w.heap.mapIdx (fixX X))[b]? = _ at hb
    obtain ⟨cs', t', hc⟩ := h b hx
    rw [hget, hc] at hb
    simp only [Option.map_some, fixX, if_pos hx, empt, Option.some.injEq, Obj.cells.injEq] at hb
    exact hb.2.2.symm
  · show (w.heap.mapIdx (fixX X))[b]? = _
    rw [hget, hb]
    simp only [Option.map_some, fixX, if_neg hx, isGh, Bool.false_eq_true, if_false]

/-- What goroutine 0 does by itself beside those that leave, if it lets X be. -/
theorem dok_dm {X : Nat → Prop} {Shun : Loc → Prop} (h : ∀ l, Shun l → ∃ a : Addr, l = .cell a ∧ X a.block) : Dok X (DM Shun) := by
  intro n w es hs hev
  refine ⟨hs, fun e he => ?_⟩
  rcases hev e he with ⟨a, wr, rfl, h2, h3⟩ | ⟨r, wr, sy, rfl, _, _⟩ | ⟨m0, hm0, rfl⟩
  · refine ⟨⟨fun x hx hsh => ?_, by simp, by simp⟩, fun x hx ad ead => ?_⟩
    · simp only [MemAct.ofEvent, MemAct.touch?, Option.some.injEq] at hx
      subst hx
      obtain ⟨a', h4, h5⟩ := h _ hsh
      cases h4
      exact absurd h5 h3
    · simp only [MemAct.ofEvent, MemAct.touch?, Option.some.injEq] at hx
      subst hx
      cases ead
      exact h2
  · have no : ∀ x, (MemAct.ofEvent ⟨.obj r, wr, sy⟩).touch? = some x → ∀ a : Addr, x.loc ≠ .cell a := fun x hx a e => by
      cases wr <;> cases sy <;> simp only [MemAct.ofEvent, MemAct.touch?, Option.some.injEq, reduceCtorEq] at hx <;> (subst hx; cases e)
    exact ⟨⟨fun x hx hsh => by obtain ⟨a', h4, _⟩ := h _ hsh; exact absurd h4 (no x hx a'), by simp, by simp⟩, fun x hx ad ead => absurd ead (no x hx ad)⟩
  · rcases hm0 with rfl | ⟨_, rfl⟩ <;> exact ⟨⟨fun x hx => by simp [MemAct.ofEvent, MemAct.touch?] at hx, by simp, by simp⟩, fun x hx => by simp [MemAct.ofEvent, MemAct.touch?] at hx⟩

/-- Below, whatever the tapes. -/
def Bel (B : Nat) (w w' : World) : Prop := Below B { w with tape := w'.tape } w'
theorem Bel.of {B : Nat} {w w' : World} (h : Below B w w') : Bel B w w' := ⟨h.os, rfl, h.output, h.size, h.block⟩
theorem Bel.refl (B : Nat) (w : World) : Bel B w w := Bel.of (Below.refl B w)
theorem Bel.tp {B : Nat} {w w' : World} (h : Bel B w w') (τ : Nat → Question → Nat) (d : Nat) : Bel B w { w' with tape := τ, drawn := d } := ⟨h.os, rfl, h.output, h.size, h.block⟩
theorem Bel.trans {B B' : Nat} {w w' w'' : World} (h : Bel B w w') (h' : Bel B' w' w'') (hB : B ≤ B') : Bel B w w'' := ⟨h'.os.trans h.os, rfl, h'.output.trans h.output, Nat.le_trans h.size h'.size, fun k hk => (h'.block k (Nat.lt_of_lt_of_le hk hB)).trans (h.block k hk)⟩
theorem Bel.size' {B : Nat} {w w' : World} (h : Bel B w w') : w.heap.size ≤ w'.heap.size := h.size
theorem Bel.blk {B : Nat} {w w' : World} (h : Bel B w w') {k : Nat} (hk : k < B) : w'.heap[k]? = w.heap[k]? := h.block k hk
theorem Bel.mono {B B' : Nat} {w w' : World} (h : Bel B w w') (hB : B' ≤ B) : Bel B' w w' := ⟨h.os, rfl, h.output, h.size, fun k hk => h.block k (Nat.lt_of_lt_of_le hk hB)⟩
end Go.Lf

/-
  Beside those that leave: a call by its contract, and a region that draws its order.
-/
namespace Go.Lf
open Go.Conc

section
variable {P : Program} {F : FuncId → Bool} {X : Nat → Prop} {Y : Nat → Option Obj} {D : Nat → World → Array Event → Prop} {Stop : Goroutine → World → Prop}

variable (P F X Y D Stop) in
structure SgC (cs : List Frame) (Q : Frame → World → Prop) (s : Sg) : Prop where
  tf : TFr P F s.f
  mode : s.f.mode = .run ∨ s.f.mode = .returning
  stack : Stack P F s.r
  sim : SimT X Y s.w s.u
  law : ∀ τ : Nat → Question → Nat, (∀ p, p < s.u.drawn → τ p = s.u.tape p) → ∃ n fz v', ownN P n s.f (s.r ++ [f0]) { s.u with tape := τ } fz [f0] v' ∧ fz.mode = .returning ∧ Q fz v'
  no : ¬ GoesI P D Stop (G s.f (s.r ++ cs)) s.w

theorem sgC_end {cs : List Frame} {Q : Frame → World → Prop} (hK : ∀ fz v' w', TFr P F fz → fz.mode = .returning → Q fz v' → SimT X Y w' v' → GoesI P D Stop (G fz cs) w') {s : Sg} (hi : SgC P F X Y D Stop cs Q s) {τ : Nat → Question → Nat} {fz : Frame} {v' : World}
    (h : ownN P 0 s.f (s.r ++ [f0]) { s.u with tape := τ } fz [f0] v') (hm : fz.mode = .returning) (hq : Q fz v') : False := by
  obtain ⟨h1, h2, h3⟩ := own_zero h
  have hr : s.r = [] := by
    have := congrArg List.length h2
    simp at this
    exact this
  apply hi.no
  have : G s.f (s.r ++ cs) = G fz cs := by rw [hr, h1]; rfl
  rw [this]
  refine hK fz v' s.w (h1 ▸ hi.tf) hm hq ?_
  rw [← h3]
  exact hi.sim.to τ s.u.drawn

theorem sgC_next (hF : GoodF P F) (hD : Dok X D) {cs : List Frame} {Q : Frame → World → Prop} (hK : ∀ fz v' w', TFr P F fz → fz.mode = .returning → Q fz v' → SimT X Y w' v' → GoesI P D Stop (G fz cs) w') {s : Sg}
    (hi : SgC P F X Y D Stop cs Q s) : ∃ s', SgC P F X Y D Stop cs Q s' ∧ SgNext P s s' := by
  obtain ⟨d, hd⟩ : ∃ d, ∀ g' w' es, stepG P true (G s.f (s.r ++ cs)) (s.w.at d) = .go g' w' es → D s.w.heap.size w' es → ¬ GoesI P D Stop g' w' := by
    refine Classical.byContradiction fun hno => hi.no (.next rfl fun d => ?_)
    refine Classical.byContradiction fun hd => hno ⟨d, fun g' w' es h1 h2 h3 => hd ⟨g', w', es, h1, h2, h3⟩⟩
  let τ₁ : Nat → Question → Nat := fun p q => if p < s.u.drawn then s.u.tape p q else s.w.tape (d + (p - s.u.drawn)) q
  have hs : Sim X Y (s.w.at d) { s.u with tape := τ₁ } := hi.sim.re d s.u.drawn τ₁ fun i q => by
    show s.w.tape (d + i) q = if s.u.drawn + i < s.u.drawn then _ else _
    rw [if_neg (by omega), show s.u.drawn + i - s.u.drawn = i by omega]
  have hag : ∀ p, p < s.u.drawn → τ₁ p = s.u.tape p := fun p hp => by
    funext q
    show (if p < s.u.drawn then _ else _) = _
    rw [if_pos hp]
  obtain ⟨n, fz, v', hn, hzm, hq⟩ := hi.law τ₁ hag
  cases n with
  | zero => exact (sgC_end hK hi hn hzm hq).elim
  | succ n =>
    have mk : ∀ (f' : Frame) (r' : List Frame) (u₂ w₂ : World) (es : Array Event), TFr P F f' → (f'.mode = .run ∨ f'.mode = .returning) → Stack P F r' → Sim X Y w₂ u₂ → Tp P (G s.f (s.r ++ [f0])) { s.u with tape := τ₁ } (G f' (r' ++ [f0])) u₂ es →
        stepG P true (G s.f (s.r ++ cs)) (s.w.at d) = .go (G f' (r' ++ cs)) w₂ es → s.w.heap.size ≤ w₂.heap.size → EvsP X w₂ es → ∃ s', SgC P F X Y D Stop cs Q s' ∧ SgNext P s s' := fun f' r' u₂ w₂ es h1 h2 h3 h4 h5 h6 h8 h7 => by
      obtain ⟨t1, t2, t3⟩ := h5
      dsimp only at t1 t2 t3
      refine ⟨⟨f', r', u₂, w₂⟩, ⟨h1, h2, h3, h4.t, fun τ hτ => ?_, hd _ _ _ h6 (hD _ _ _ h8 h7)⟩, t2, fun p hp => by rw [t1]; exact hag p hp, fun τ hτ => ⟨es, t3 τ fun p hp1 hp2 => by rw [hτ p hp1 hp2, t1]⟩⟩
      dsimp only at hτ
      obtain ⟨n, fz, v', hn, hzm, hq⟩ := hi.law τ fun p hp => by rw [hτ p (by omega), t1]; exact hag p hp
      cases n with
      | zero => exact (sgC_end hK hi hn hzm hq).elim
      | succ n => exact ⟨n, fz, v', own_go (t3 τ fun p _ hp2 => by rw [hτ p hp2, t1]) hn, hzm, hq⟩
    rcases hi.mode with hm | hm
    · rcases tstep (cs := s.r ++ [f0]) hF hi.tf hm hs with ⟨o, v'', es', he⟩ | ⟨ch, v'', es', he⟩ | ⟨g', v'', es', w', he, htp, hs', hsz, hev, hway⟩
      · exact (own_end he hn).elim
      · exact absurd (own_go he hn) (dead_end2 (F := F) n _ s.r ch _ fz [f0] v' (stack_mem hi.stack) rfl ⟨hi.tf.fn, hi.tf.defers⟩ (fun ch e => by rw [hzm] at e; cases e))
      · cases hway with
        | @here f' hg hT' hm' hB =>
          subst hg
          refine mk f' s.r v'' w' es' hT' hm' hi.stack hs' htp ?_ hsz hev
          have := hB [] (s.r ++ cs) (fun _ => rfl)
          rw [extB_nil, extB_nil] at this
          exact this
        | @call e hg hTe hme hne hB =>
          subst hg
          refine mk e (s.f :: s.r) v'' w' es' hTe (.inl hme) ⟨⟨hi.tf, hm, hne.1, finish_ok hi.tf hm hne⟩, hi.stack⟩ hs' htp ?_ hsz hev
          have := hB [] (s.r ++ cs)
          rw [extB_nil] at this
          exact this
        | back _ _ hr _ => rw [hm] at hr; cases hr
    · cases hr : s.r with
      | nil =>
        rw [hr] at hn
        rcases tback (c := f0) (r := []) (F := F) hi.tf hm hs with ⟨o, v'', es', he⟩ | ⟨y, v'', es', w', he, _⟩
        · exact (own_end he hn).elim
        · exact absurd (own_go he hn) (f0_end n _ fz v')
      | cons c r =>
        have hS := hi.stack
        rw [hr] at hn hS mk
        rcases tback (c := c) (r := r ++ [f0]) (F := F) hi.tf hm hs with ⟨o, v'', es', he⟩ | ⟨y, v'', es', w', he, htp, hs', hsz, hev, hB⟩
        · exact (own_end he hn).elim
        · obtain ⟨hTc, hmc, _⟩ := hS.1.2.2.2 y
          exact mk (c.finish y) r v'' w' es' hTc (.inl hmc) hS.2 hs' htp (hB c (r ++ cs)) hsz hev

/-- ████ A callee's run up to its return, by its lone law on every tape. -/
theorem segC (hF : GoodF P F) (hD : Dok X D) {cs : List Frame} {Q : Frame → World → Prop} {f : Frame} (hT : TFr P F f) (hm : f.mode = .run) {v : World} (h : ∀ τ d, ∃ n fz v', ownN P n f [f0] { v with tape := τ, drawn := d } fz [f0] v' ∧ fz.mode = .returning ∧ Q fz v')
    {w : World} (hs : SimT X Y w v) (hK : ∀ fz v' w', TFr P F fz → fz.mode = .returning → Q fz v' → SimT X Y w' v' → GoesI P D Stop (G fz cs) w') : GoesI P D Stop (G f cs) w := by
  refine Classical.byContradiction fun hno => ?_
  have start : SgC P F X Y D Stop cs Q ⟨f, [], { v with drawn := 0 }, w⟩ := ⟨hT, .inl hm, trivial, hs.to v.tape 0, fun τ _ => h τ 0, hno⟩
  let nx : {s // SgC P F X Y D Stop cs Q s} → {s // SgC P F X Y D Stop cs Q s} := fun s => ⟨(sgC_next hF hD hK s.2).choose, (sgC_next hF hD hK s.2).choose_spec.1⟩
  have nxs : ∀ s, SgNext P s.1 (nx s).1 := fun s => (sgC_next hF hD hK s.2).choose_spec.2
  let q : Nat → {s // SgC P F X Y D Stop cs Q s} := fun n => Nat.rec ⟨_, start⟩ (fun _ s => nx s) n
  have qs : ∀ n, SgNext P (q n).1 (q (n + 1)).1 := fun n => nxs (q n)
  have mono : ∀ n m, n ≤ m → (q n).1.u.drawn ≤ (q m).1.u.drawn ∧ ∀ p, p < (q n).1.u.drawn → (q m).1.u.tape p = (q n).1.u.tape p := by
    intro n m hnm
    induction m with
    | zero =>
      obtain rfl : n = 0 := by omega
      exact ⟨Nat.le_refl _, fun _ _ => rfl⟩
    | succ m ih =>
      rcases Nat.lt_or_ge n (m + 1) with hlt | hge
      · obtain ⟨h1, h2⟩ := ih (by omega)
        have h3 := qs m
        exact ⟨Nat.le_trans h1 h3.1, fun p hp => (h3.2.1 p (by omega)).trans (h2 p hp)⟩
      · obtain rfl : n = m + 1 := by omega
        exact ⟨Nat.le_refl _, fun _ _ => rfl⟩
  have dec : ∀ p, Decidable (∃ n, p < (q n).1.u.drawn) := fun p => Classical.propDecidable _
  let τ : Nat → Question → Nat := fun p => if h : ∃ n, p < (q n).1.u.drawn then (q h.choose).1.u.tape p else fun _ => 0
  have agree : ∀ n p, p < (q n).1.u.drawn → τ p = (q n).1.u.tape p := fun n p hp => by
    have hex : ∃ n, p < (q n).1.u.drawn := ⟨n, hp⟩
    show (if h : ∃ n, p < (q n).1.u.drawn then (q h.choose).1.u.tape p else fun _ => 0) = _
    rw [dif_pos hex]
    have hc := hex.choose_spec
    rcases Nat.le_total n hex.choose with hle | hle
    · exact (mono n _ hle).2 p hp
    · exact ((mono _ n hle).2 p hc).symm
  have never : ∀ (m i : Nat) (fz : Frame) (v' : World), ownN P m (q i).1.f ((q i).1.r ++ [f0]) { (q i).1.u with tape := τ } fz [f0] v' → fz.mode = .returning → Q fz v' → False := by
    intro m
    induction m with
    | zero => exact fun i fz v' h hm hq => sgC_end hK (q i).2 h hm hq
    | succ m ih =>
      intro i fz v' h hm hq
      obtain ⟨es, he⟩ := (qs i).2.2 τ fun p _ hp => agree (i + 1) p hp
      exact ih (i + 1) fz v' (own_go he h) hm hq
  obtain ⟨n, fz, v', hn, hm, hq⟩ := (q 0).2.law τ fun p hp => agree 0 p hp
  exact never n 0 fz v' hn hm hq

variable {f : FuncId} {k : List Item} {cs : List Frame} {a : Act} {v : World} {ops : Array Oper} {i : Nat} {rest : List Nat} {o : Oper}

/-- A call by its contract. -/
theorem reaI_calls (hF : GoodF P F) (hD : Dok X D) {g : FuncId} (hg : GoodBody P F g) {args : Array Operand} {ats : Array TypeId} {vs : Array Value} {R : Value → World → Prop} (ho : ops[i]? = some o) (hw : Region.wanted o (yielded ops a.tmps) = true) (hop : o.op = .call { callee := .value (.func g), args, argTypes := ats }) (hvs : args.map a.eval = vs) (hsz : vs.size ≤ arity P g)
    (hc : ∀ τ d, Calls P g vs { v with tape := τ, drawn := d } fun e v' => ∃ y, e = .returned y ∧ R y v') (h : ∀ y v', R y v' → ReaI P X Y D Stop f cs (.inRegion ops rest :: k) (a.put o.dst y) v') : ReaI P X Y D Stop f cs (.inRegion ops (i :: rest) :: k) a v := by
  subst hvs
  intro w hs
  obtain ⟨fn1, c1, S1, g1, g2, g3, g4, g5⟩ := id hg
  refine .next rfl fun d => ?_
  obtain ⟨g1', w1', es1, hgo, rfl, rfl, rfl⟩ := goes_elim (goes_call (P := P) (main := true) (b := base f) (a := a) (k := k) (cs := cs) (w := w.at d) (rest := rest) (K := fun g1 w1 es => g1 = G ((base g).at { tmps := args.map a.eval ++ Array.replicate (fn1.ntmps - (args.map a.eval).size) undef, defers := [] } [.code c1]) ((base f).at a (.inRegion ops (i :: rest) :: k) :: cs) ∧ w1 = w.at d ∧ es = #[]) ho hw (by intro h; cases h) hop g1 g2 g3 ⟨rfl, rfl, rfl⟩)
  refine ⟨_, _, _, hgo, hD.nil (Nat.le_refl _), ?_⟩
  have e0 : G ((base g).at { tmps := args.map a.eval ++ Array.replicate (fn1.ntmps - (args.map a.eval).size) undef, defers := [] } [.code c1]) ((base f).at a (.inRegion ops (i :: rest) :: k) :: cs) = G (Frame.enter P g (args.map a.eval) .normal) ((base f).at a (.inRegion ops (i :: rest) :: k) :: cs) := by rw [← enter_at _ g1 g3]
  rw [e0]
  refine segC (Q := fun fr v' => ∃ y, R y v' ∧ fr.defers = [] ∧ fr.kind = .normal ∧ ∃ fn, P.funcs[fr.fn]? = some fn ∧ (results fn fr.tmps).run P v' = .ok y v') hF hD (tfr_enter hg hsz) rfl (fun τ d' => ?_) (hs.at d) (fun fz v' w' hT hzm hQ hs' => ?_)
  · obtain ⟨e, v', fr, ⟨y, rfl, hR⟩, hcomes, hfn, hlv⟩ := hc τ d' [f0]
    obtain ⟨n, hn⟩ : Steps P (lone (Frame.enter P g (args.map a.eval) .normal) [f0] { v with tape := τ, drawn := d' }) (lone fr [f0] v') := hcomes
    obtain ⟨hm, hd, hk, fn, hf, hr⟩ := hlv
    exact ⟨n, fr, v', hn, hm, y, hR, hd, hk, fn, hf, hr⟩
  · obtain ⟨y, hR, hd, hk, fn, hf, hr⟩ := hQ
    refine .next rfl fun d => ?_
    obtain ⟨τ0, d0, hs0⟩ := hs'
    have hsim : Sim X Y (w'.at d) { v' with tape := fun p => w'.tape (d + (p - v'.drawn)) } := SimT.re ⟨τ0, d0, hs0⟩ d v'.drawn _ fun i q => by
      show w'.tape (d + i) q = w'.tape (d + (v'.drawn + i - v'.drawn)) q
      rw [Nat.add_sub_cancel_left]
    obtain ⟨_, _, ht3⟩ := tape_run (results fn fz.tmps) v' #[] y v' ((results fn fz.tmps).events P v' #[]) (plain_results fn fz.tmps) hs0.nv (by rw [Sem.runT_eq, hr])
    have hr2 := ht3 (fun p => w'.tape (d + (p - v'.drawn))) (fun p h1 h2 => absurd h2 (by omega))
    obtain ⟨w3, h1, h2, h3, h4⟩ := sim_run (results fn fz.tmps) (w'.at d) _ #[] y _ _ (plain_results fn fz.tmps) hsim hr2
    refine ⟨G ((base f).at (a.put o.dst y) (.inRegion ops rest :: k)) cs, w3, seen P fz.fn ((results fn fz.tmps).events P v' #[]), ?_, hD _ _ _ (Nat.le_of_eq (hsim.size.trans h2.size.symm)) (fun e he => (h4 e (mem_seen he)).resolve_left (by simp)), h y v' hR w3 ⟨_, _, h2⟩⟩
    have eF : ((base f).at a (.inRegion ops (i :: rest) :: k)).finish y = (base f).at (a.put o.dst y) (.inRegion ops rest :: k) := by
      simp only [Frame.finish, Frame.at, ho, Option.bind_some, Act.put]
      cases o.dst <;> rfl
    obtain ⟨fnx, tmps, todo, defers, mode, kind, round⟩ := fz
    dsimp only at hzm hd hk hf hr h1 h4
    subst hzm hd hk
    show stepG P true _ (w'.at d) = _
    simp only [G, stepG, unwind, hf, h1, doReturn, GStep.after]
    rw [eF]
    rfl

/-- A region draws its order. -/
theorem reaI_draw (hD : Dok X D) {id : Nat} (h : ∀ t, ReaI P X Y D Stop f cs (.inRegion ops (Region.schedule (P.follows .mixedOrders) ops t) :: k) a v) : ReaI P X Y D Stop f cs (.code (.region id ops true) :: k) a v := by
  intro w hs
  have hc : ∀ u : World, (choose (.order f id)).run P u = .ok (u.tape u.drawn (.order f id)) { u with drawn := u.drawn + 1 } := fun u => rfl
  refine .next rfl fun d => ⟨_, (w.at (d + 1)), #[], ?_, hD.nil (Nat.le_refl _), h (w.tape d (.order f id)) _ (hs.at (d + 1))⟩
  simp only [G, base, Frame.at, stepG, stepG.exec, Bool.not_true, Bool.false_eq_true, if_false, hc]
  rfl
end
#print axioms reaI_calls
end Go.Lf

/-
  Workers that make memory, and their starter: what is asked of each, and where each stands.
-/
import Derived.Test.YtlghjjennhpjeaaGreatDoorGhD
import Derived.Test.YtlghjjennhpjeaaGreatDoorGhE
namespace Go.Gh
open Go.Conc Go.ConcN
open Go.ConcR (KK WgAt stA smA rd wr mk Payload DC0 again_blocked)
variable [Payload] [OldG]

def NoF (_ : Nat) (_ : Loc) : Prop := False

section
variable (P : Program) (ty : TypeId) (Wg C n B : Nat) (M : Nat → Prop) (WP : Nat → Value → World → Prop) (K : List Nat → Goroutine → World → Prop)

/-- The worker for cell idx has written it and comes to its deferred Done. -/
def AtDone (idx : Nat) (g : Goroutine) (w : World) : Prop :=
  g.status = .running ∧ ∃ v, WP idx v w ∧ Has C idx v w ∧ ∀ W, WgLive ty Wg W → Has C idx v W → Goes P false (RW ty Wg C n 0 (idx + 1 - 1)) (DWs Wg NoF NoF C n (idx + 1)) (AtR0 P ty Wg C n 0 (idx + 1) v) 23 g W

/-- The worker's whole script. -/
def Wk (idx m : Nat) (g : Goroutine) (w : World) : Prop := Goes P false (Ro Wg C n B (· = idx)) (Dg Wg C n B (· = idx)) (AtDone P ty Wg C n WP idx) m g w


/-- At the call of Wait. -/
def AtWt (ids : List Nat) (g : Goroutine) (w : World) : Prop := g.status = .running ∧ ∃ gT, WaitS P ty Wg gT g ∧ K ids gT w
/-- At a go statement. -/
def AtGo (Next : List Nat → Goroutine → World → Prop) (ids : List Nat) (g : Goroutine) (w : World) : Prop :=
  g.status = .running ∧ ∃ g' child idx l, stepG P true g w = .spawn g' child w #[] ∧ child.status = .running ∧ idx ∉ ids ∧ M idx ∧ (∀ b ∈ l, Mine w b) ∧
    (∃ m, Wk P ty Wg C n B WP idx m child (w.out (book w.heap.size l))) ∧ ∀ l', (∀ b, b ∈ l' ↔ Mine w b ∧ b ∉ l) → Next (idx :: ids) g' (w.out (book w.heap.size l'))
/-- At the call of Add(1). -/
def AtAdd (Next : List Nat → Goroutine → World → Prop) (ids : List Nat) (g : Goroutine) (w : World) : Prop :=
  g.status = .running ∧ ∃ gT mm, AddS P ty Wg gT g ∧ (Goes P true (Ro Wg C n B (fun i => ¬ M i)) (Dg Wg C n B (fun i => ¬ M i))) (AtGo P ty Wg C n B M WP Next ids) mm gT w
/-- The starter's script: r workers are still to be started. -/
def Sp : Nat → List Nat → Goroutine → World → Prop
  | 0, ids, g, w => ∃ m, (Goes P true (Ro Wg C n B (fun i => ¬ M i)) (Dg Wg C n B (fun i => ¬ M i))) (AtWt P ty Wg K ids) m g w
  | r + 1, ids, g, w => ∃ m, (Goes P true (Ro Wg C n B (fun i => ¬ M i)) (Dg Wg C n B (fun i => ¬ M i))) (AtAdd P ty Wg C n B M WP (Sp r) ids) m g w

/-- Where a worker stands. -/
inductive WS (idx : Nat) (l : List Nat) : Nat → Nat → Nat → Goroutine → World → Prop
  | comp {m : Nat} {g : Goroutine} {W : World} : Wk P ty Wg C n B WP idx m g (gw W l) → WS idx l 7 (m + 24) 0 g W
  | lib {v : Value} {s m d : Nat} {g : Goroutine} {W : World} : WSit P ty Wg C n NoF NoF 0 (idx + 1) v s m d g W → (s = 7 → m ≤ 23) → WP idx v (gw W l) → (s ≤ 6 → Has C idx v W) → WS idx l s m d g W


/-- Where the starter stands: its tag, how many it has still to start, its fuel, its deafness. -/
inductive MS (ids : List Nat) (l : List Nat) : CTag → Nat → Nat → Nat → Goroutine → World → Prop
  | c1 {r m : Nat} {g : Goroutine} {W : World} : (Goes P true (Ro Wg C n B (fun i => ¬ M i)) (Dg Wg C n B (fun i => ¬ M i))) (AtAdd P ty Wg C n B M WP (Sp P ty Wg C n B M WP K r) ids) m g (gw W l) → MS ids l (.sp (r + 1) 7) (r + 1) m 0 g W
  | kd1 {r m mm : Nat} {g gT : Goroutine} {W : World} : (Goes P true (RL ty Wg) DC0) (AKd P ty Wg gT) m g W → (Goes P true (Ro Wg C n B (fun i => ¬ M i)) (Dg Wg C n B (fun i => ¬ M i))) ((AtGo P ty Wg C n B M WP) (Sp P ty Wg C n B M WP K r) ids) mm gT (gw W l) → MS ids l (.sp (r + 1) 6) (r + 1) m 0 g W
  | a1 {r m mm : Nat} {g gT : Goroutine} {W : World} : (Goes P true (RL ty Wg) DC0) (AA1 P ty Wg gT) m g W → (Goes P true (Ro Wg C n B (fun i => ¬ M i)) (Dg Wg C n B (fun i => ¬ M i))) ((AtGo P ty Wg C n B M WP) (Sp P ty Wg C n B M WP K r) ids) mm gT (gw W l) → MS ids l (.sp (r + 1) 5) (r + 1) m 1 g W
  | rd1 {r m mm : Nat} {g gT : Goroutine} {W : World} : (Goes P true (RL ty Wg) DC0) (ARd P ty Wg gT) m g W → (Goes P true (Ro Wg C n B (fun i => ¬ M i)) (Dg Wg C n B (fun i => ¬ M i))) ((AtGo P ty Wg C n B M WP) (Sp P ty Wg C n B M WP K r) ids) mm gT (gw W l) → MS ids l (.sp (r + 1) 3) (r + 1) m 1 g W
  | ke1 {r m mm : Nat} {g gT : Goroutine} {W : World} : (Goes P true (RL ty Wg) DC0) (AKe P ty Wg gT) m g W → (Goes P true (Ro Wg C n B (fun i => ¬ M i)) (Dg Wg C n B (fun i => ¬ M i))) ((AtGo P ty Wg C n B M WP) (Sp P ty Wg C n B M WP K r) ids) mm gT (gw W l) → MS ids l (.sp (r + 1) 2) (r + 1) m 1 g W
  | en1 {r m mm : Nat} {g gT : Goroutine} {W : World} : (Goes P true (RL ty Wg) DC0) (AEnd gT) m g W → (Goes P true (Ro Wg C n B (fun i => ¬ M i)) (Dg Wg C n B (fun i => ¬ M i))) ((AtGo P ty Wg C n B M WP) (Sp P ty Wg C n B M WP K r) ids) mm gT (gw W l) → MS ids l (.sp (r + 1) 1) (r + 1) (m + mm + 1) 0 g W
  | c2 {r m : Nat} {g : Goroutine} {W : World} : (Goes P true (Ro Wg C n B (fun i => ¬ M i)) (Dg Wg C n B (fun i => ¬ M i))) ((AtGo P ty Wg C n B M WP) (Sp P ty Wg C n B M WP K r) ids) m g (gw W l) → MS ids l (.sp (r + 1) 1) (r + 1) m 0 g W
  | c0 {m : Nat} {g : Goroutine} {W : World} : (Goes P true (Ro Wg C n B (fun i => ¬ M i)) (Dg Wg C n B (fun i => ¬ M i))) (AtWt P ty Wg K ids) m g (gw W l) → MS ids l (.sp 0 7) 0 m 0 g W
  | kd {m : Nat} {g gT : Goroutine} {An : Goroutine → World → Prop} {W : World} : (∀ g w, An g w → g.status = .running) → (∀ g w, An g w → ∃ m, (Goes P true (RL ty Wg) DC0) (WW1 P ty Wg gT An) m g w) → (Goes P true (RL ty Wg) DC0) (WKd P ty Wg An) m g W → K ids gT (gw W l) → MS ids l .kd 0 m 0 g W
  | anch {m : Nat} {g gT : Goroutine} {An : Goroutine → World → Prop} {W : World} : (∀ g w, An g w → g.status = .running) → (∀ g w, An g w → ∃ m, (Goes P true (RL ty Wg) DC0) (WW1 P ty Wg gT An) m g w) → (Goes P true (RL ty Wg) DC0) An m g W → K ids gT (gw W l) → MS ids l .anch 0 m 1 g W
  | w1 {m : Nat} {g gT : Goroutine} {An : Goroutine → World → Prop} {W : World} : (∀ g w, An g w → g.status = .running) → (∀ g w, An g w → ∃ m, (Goes P true (RL ty Wg) DC0) (WW1 P ty Wg gT An) m g w) → (Goes P true (RL ty Wg) DC0) (WW1 P ty Wg gT An) m g W → K ids gT (gw W l) → MS ids l .w1 0 m 1 g W
  | w2 {vs m : Nat} {g gT : Goroutine} {An : Goroutine → World → Prop} {W : World} : (∀ g w, An g w → g.status = .running) → (∀ g w, An g w → ∃ m, (Goes P true (RL ty Wg) DC0) (WW1 P ty Wg gT An) m g w) → (Goes P true (RL ty Wg) DC0) (WW2 P ty Wg gT An vs) m g W → K ids gT (gw W l) → MS ids l (.w2 vs) 0 m 1 g W
  | wr {m : Nat} {g gT : Goroutine} {W : World} : (Goes P true (RL ty Wg) DC0) (WWr P ty Wg gT) m g W → K ids gT (gw W l) → MS ids l .w3 0 (m + 62) 1 g W
  | w3 {m : Nat} {g gT : Goroutine} {W : World} : (Goes P true (RL ty Wg) DC0) (WW3 P ty Wg gT) m g W → K ids gT (gw W l) → MS ids l .w3 0 (m + 1) 1 g W
  | blk {g gT : Goroutine} {W : World} : (∀ W₁, RL ty Wg W W₁ → WW3 P ty Wg gT g W₁) → K ids gT (gw W l) → MS ids l .blk 0 0 1 { g with status := .blocked } W
  | w4 {m : Nat} {g gT : Goroutine} {W : World} : (Goes P true (RL ty Wg) DC0) (WW4 P ty Wg gT) m g W → K ids gT (gw W l) → MS ids l .w4 0 m 1 g W
  | ke {m : Nat} {g gT : Goroutine} {W : World} : (Goes P true (RL ty Wg) DC0) (WKe P ty Wg gT) m g W → K ids gT (gw W l) → MS ids l .ke 0 m 1 g W
  | acq {m : Nat} {g gT : Goroutine} {W : World} : (Goes P true (RL ty Wg) DC0) (WAcq P ty Wg gT) m g W → K ids gT (gw W l) → MS ids l .acq 0 m 0 g W
  | ret {m : Nat} {g gT : Goroutine} {W : World} : (Goes P true (RL ty Wg) DC0) (AEnd gT) m g W → K ids gT (gw W l) → MS ids l .ret 0 m 0 g W
end

omit [Payload] [OldG] in
theorem rl_refl (ty : TypeId) (Wg : Nat) (w : World) : RL ty Wg w w := id
omit [Payload] [OldG] in
theorem rl_trans (ty : TypeId) (Wg : Nat) : ∀ a b c, RL ty Wg a b → RL ty Wg b c → RL ty Wg a c := fun _ _ _ h h' => h' ∘ h

section
variable {P : Program} {ty : TypeId} {Wg C n B : Nat} {M : Nat → Prop} {WP : Nat → Value → World → Prop} {K : List Nat → Goroutine → World → Prop}
  {lo l ids : List Nat} {Cm : Nat → Prop} {W W' : World} {idx s m d r f : Nat} {g : Goroutine} {tag : CTag}

theorem WS.rely (hWP : ∀ v w w₁, Ro Wg C n B (fun _ => False) w w₁ → WP idx v w → WP idx v w₁) (h : WS P ty Wg C n B WP idx l s m d g W) (hc : Chg ty Wg C n lo Cm W W') (hB : B ≤ W.heap.size) (hlo : ∀ b ∈ lo, B ≤ b)
    (hl : ∀ b ∈ l, b ∉ lo ∧ b < W.heap.size ∧ b ≠ C ∧ b ≠ Wg) (hCm : ¬ Cm idx) : WS P ty Wg C n B WP idx l s m d g W' := by
  have hro : Ro Wg C n B (· = idx) (gw W l) (gw W' l) := hc.ro hB hlo hl (fun i hi => by subst hi; exact hCm)
  cases h with
  | comp h =>
    have tr : ∀ a b c, Ro Wg C n B (· = idx) a b → Ro Wg C n B (· = idx) b c → Ro Wg C n B (· = idx) a c := fun _ _ _ a b => Ro.trans a b
    exact .comp (Goes.rely tr h hro)
  | lib h1 h2 h3 h4 => exact .lib (h1.rely ⟨fun b hb => by omega, hc.live, hc.pay, by simpa using hc.cells idx hCm⟩) h2 (hWP _ _ _ (hc.ro hB hlo hl (fun _ => False.elim)) h3) (fun h => (hc.cells idx hCm).trans (h4 h))

theorem WS.status (h : WS P ty Wg C n B WP idx l s m d g W) : g.status = .running ∨ g.status = .finished := by
  cases h with
  | comp h =>
    refine .inl (Goes.running (fun _ _ x => x.1) (gw W l) ⟨Nat.le_refl _, rfl, rfl, ?_, fun b => ?_, fun _ _ _ _ => rfl, fun _ _ => rfl, fun _ _ => rfl, id⟩ h)
    · unfold gw; rw [tag_book]; rfl
    · rw [mine_gw]; unfold gw; rw [own_book]
  | lib h1 _ _ _ => exact h1.status
theorem WS.woken (h : WS P ty Wg C n B WP idx l s m d g W) (a a' : Goroutine) (w' : World) : woken P a a' w' g = g := by
  unfold Go.Conc.woken
  split
  · exact again_running _ h.status
  · rfl
theorem WS.quits (h : WS P ty Wg C n B WP idx l 1 m d g W) : QuitsD P m d g := by
  cases h with
  | lib h1 _ _ _ => exact h1.quits rfl

omit [OldG] in
theorem ro_refl (W : World) (l : List Nat) (Cl : Nat → Prop) : Ro Wg C n B Cl (gw W l) (gw W l) := by
  refine ⟨Nat.le_refl _, rfl, rfl, ?_, fun b => ?_, fun _ _ _ _ => rfl, fun _ _ => rfl, fun _ _ => rfl, id⟩
  · unfold gw; rw [tag_book]; rfl
  · rw [mine_gw]; unfold gw; rw [own_book]

theorem MS.rely (hK : ∀ ids g w w₁, Ro Wg C n B (fun i => ¬ M i) w w₁ → K ids g w → K ids g w₁) (h : MS P ty Wg C n B M WP K ids l tag r f d g W) (hc : Chg ty Wg C n lo Cm W W') (hB : B ≤ W.heap.size) (hlo : ∀ b ∈ lo, B ≤ b)
    (hl : ∀ b ∈ l, b ∉ lo ∧ b < W.heap.size ∧ b ≠ C ∧ b ≠ Wg) (hCm : ∀ i, Cm i → M i) : MS P ty Wg C n B M WP K ids l tag r f d g W' := by
  have hro : Ro Wg C n B (fun i => ¬ M i) (gw W l) (gw W' l) := hc.ro hB hlo hl (fun i hi hm => hi (hCm i hm))
  have tr : ∀ a b c, Ro Wg C n B (fun i => ¬ M i) a b → Ro Wg C n B (fun i => ¬ M i) b c → Ro Wg C n B (fun i => ¬ M i) a c := fun _ _ _ a b => Ro.trans a b
  have hrl : RL ty Wg W W' := hc.live
  have tl := rl_trans ty Wg
  cases h with
  | c1 h => exact .c1 (Goes.rely tr h hro)
  | kd1 h h' => exact .kd1 (Goes.rely tl h hrl) (Goes.rely tr h' hro)
  | a1 h h' => exact .a1 (Goes.rely tl h hrl) (Goes.rely tr h' hro)
  | rd1 h h' => exact .rd1 (Goes.rely tl h hrl) (Goes.rely tr h' hro)
  | ke1 h h' => exact .ke1 (Goes.rely tl h hrl) (Goes.rely tr h' hro)
  | en1 h h' => exact .en1 (Goes.rely tl h hrl) (Goes.rely tr h' hro)
  | c2 h => exact .c2 (Goes.rely tr h hro)
  | c0 h => exact .c0 (Goes.rely tr h hro)
  | kd a b h k => exact .kd a b (Goes.rely tl h hrl) (hK _ _ _ _ hro k)
  | anch a b h k => exact .anch a b (Goes.rely tl h hrl) (hK _ _ _ _ hro k)
  | w1 a b h k => exact .w1 a b (Goes.rely tl h hrl) (hK _ _ _ _ hro k)
  | w2 a b h k => exact .w2 a b (Goes.rely tl h hrl) (hK _ _ _ _ hro k)
  | wr h k => exact .wr (Goes.rely tl h hrl) (hK _ _ _ _ hro k)
  | w3 h k => exact .w3 (Goes.rely tl h hrl) (hK _ _ _ _ hro k)
  | blk h k => exact .blk (fun W₂ h₂ => h W₂ (h₂ ∘ hrl)) (hK _ _ _ _ hro k)
  | w4 h k => exact .w4 (Goes.rely tl h hrl) (hK _ _ _ _ hro k)
  | ke h k => exact .ke (Goes.rely tl h hrl) (hK _ _ _ _ hro k)
  | acq h k => exact .acq (Goes.rely tl h hrl) (hK _ _ _ _ hro k)
  | ret h k => exact .ret (Goes.rely tl h hrl) (hK _ _ _ _ hro k)

theorem MS.status (h : MS P ty Wg C n B M WP K ids l tag r f d g W) : (g.status = .running ∧ tag ≠ .blk) ∨ (g.status = .blocked ∧ tag = .blk) := by
  have r0 := ro_refl (Wg := Wg) (C := C) (n := n) (B := B) W l (fun i => ¬ M i)
  have rl := rl_refl ty Wg W
  cases h with
  | c1 h => exact .inl ⟨Goes.running (fun _ _ x => x.1) _ r0 h, by simp⟩
  | kd1 h _ => exact .inl ⟨Goes.running (fun _ _ x => x.1) _ rl h, by simp⟩
  | a1 h _ => exact .inl ⟨Goes.running (fun _ _ x => x.1) _ rl h, by simp⟩
  | rd1 h _ => exact .inl ⟨Goes.running (fun _ _ x => x.1) _ rl h, by simp⟩
  | ke1 h _ => exact .inl ⟨Goes.running (fun _ _ x => x.1) _ rl h, by simp⟩
  | en1 h _ => exact .inl ⟨Goes.running (fun _ _ x => x.1) _ rl h, by simp⟩
  | c2 h => exact .inl ⟨Goes.running (fun _ _ x => x.1) _ r0 h, by simp⟩
  | c0 h => exact .inl ⟨Goes.running (fun _ _ x => x.1) _ r0 h, by simp⟩
  | kd _ _ h _ => exact .inl ⟨Goes.running (fun _ _ x => x.1) _ rl h, by simp⟩
  | anch hr _ h _ => exact .inl ⟨Goes.running hr _ rl h, by simp⟩
  | w1 _ _ h _ => exact .inl ⟨Goes.running (fun _ _ x => x.1) _ rl h, by simp⟩
  | w2 _ _ h _ => exact .inl ⟨Goes.running (fun _ _ x => x.1) _ rl h, by simp⟩
  | wr h _ => exact .inl ⟨Goes.running (fun _ _ x => x.1) _ rl h, by simp⟩
  | w3 h _ => exact .inl ⟨Goes.running (fun _ _ x => x.1) _ rl h, by simp⟩
  | blk h _ => exact .inr ⟨rfl, rfl⟩
  | w4 h _ => exact .inl ⟨Goes.running (fun _ _ x => x.1) _ rl h, by simp⟩
  | ke h _ => exact .inl ⟨Goes.running (fun _ _ x => x.1) _ rl h, by simp⟩
  | acq h _ => exact .inl ⟨Goes.running (fun _ _ x => x.1) _ rl h, by simp⟩
  | ret h _ => exact .inl ⟨Goes.running (fun _ _ x => x.1) _ rl h, by simp⟩

/-- Under another's step, blocked, it may be let try again. -/
theorem MS.wokenBy (h : MS P ty Wg C n B M WP K ids l tag r f d g W) (a a' : Goroutine) :
    ∃ tag' f', MS P ty Wg C n B M WP K ids l tag' r f' d (Go.Conc.woken P a a' W g) W ∧ f' ≤ f + 1 ∧ (tag' = tag ∨ (tag = .blk ∧ tag' = .w3)) ∧ (mayWake P a = true → a'.status = .running → tag' ≠ .blk) := by
  unfold Go.Conc.woken
  split
  · rcases h.status with ⟨hs, hne⟩ | ⟨_, rfl⟩
    · exact ⟨tag, f, by rw [again_running _ (.inl hs)]; exact h, by omega, .inl rfl, fun _ _ => hne⟩
    · cases h with
      | blk hb k =>
        have h3 := hb W (rl_refl ty Wg W)
        exact ⟨.w3, 0 + 1, by rw [again_blocked h3.1 h3.2.1]; exact .w3 (Goes.stop hb) k, by omega, .inr ⟨rfl, rfl⟩, fun _ _ => by simp⟩
  · rename_i hc
    exact ⟨tag, f, h, by omega, .inl rfl, fun h1 h2 => absurd (by simp [h1, h2]) hc⟩
end

end Go.Gh

/-
  Workers that make memory, and their starter: the families of places, which grow; what holds of the machine and of the trace at every moment.
-/
namespace Go.Gh
open Go.Conc Go.ConcN
open Go.ConcR (KK WgAt stA smA rd wr mk Payload DC0 g_of_ofEvents)

/-! ### the trace's families -/
variable [OldG] [OldE]
/-- The shared places: the group's, and the old groups'. -/
def ShO (Wg : Nat) (l : Loc) : Prop := ShN Wg l ∨ ∃ a : Addr, l = .cell a ∧ OldG.old a.block
def OwnF (C j : Nat) (ix : Nat → Nat) (ow : Nat → List Nat) (k : Nat) (l : Loc) : Prop := OldE.el < k ∧ k ≤ j ∧ ∃ a : Addr, l = .cell a ∧ (a.block ∈ ow (k - 1) ∨ a = ⟨C, ix (k - 1), none⟩)
def RdF (Wg C B : Nat) (k : Nat) (l : Loc) : Prop := OldE.el < k ∧ ∃ a : Addr, l = .cell a ∧ a.block < B ∧ a.block ≠ Wg ∧ a.block ≠ C ∧ ¬ OldG.old a.block

/-- What the world's other parts hold from the beginning to the end. -/
class Out0 where
  o0 : Array (Nat × ByteArray)
  os0 : Os
/-- Where the blocks lie, and whose they are. -/
structure Gm (Wg C B : Nat) (M : Nat → Prop) (j : Nat) (ix : Nat → Nat) (ow : Nat → List Nat) (l0 : List Nat) (sz : Nat) : Prop where
  hW : Wg < B
  hC : C < B
  hCW : C ≠ Wg
  hB : B ≤ sz
  own : ∀ i, i < j → ∀ b ∈ ow i, B ≤ b ∧ b < sz
  own0 : ∀ b ∈ l0, B ≤ b ∧ b < sz
  dis : ∀ i i' b, i < j → i' < j → b ∈ ow i → b ∈ ow i' → i = i'
  dis0 : ∀ i b, i < j → b ∈ ow i → b ∉ l0
  ixd : ∀ i i', OldE.el ≤ i → OldE.el ≤ i' → i < j → i' < j → ix i = ix i' → i = i'
  ixM : ∀ i, OldE.el ≤ i → i < j → M (ix i)
  hel : OldE.el ≤ j
  old : ∀ b, OldG.old b → b < B ∧ b ≠ C

section
variable {Wg C B : Nat} {M : Nat → Prop} {j : Nat} {ix : Nat → Nat} {ow : Nat → List Nat} {l0 : List Nat} {sz sz' : Nat}

theorem Gm.apart (h : Gm Wg C B M j ix ow l0 sz) : Apart (ShO Wg) (OwnF C j ix ow) (RdF Wg C B) := by
  have hC := h.hC
  refine ⟨fun k k' l ⟨h1, h2, a, e, x⟩ ⟨h1', h2', a', e', x'⟩ => ?_, fun k k' l ⟨h1, h2, a, e, x⟩ ⟨_, a', e', y1, y2, y3, _⟩ => ?_, fun k l ⟨h1, h2, a, e, x⟩ hsh => ?_, fun k l ⟨_, a, e, y1, y2, y3, y4⟩ hsh => ?_⟩
  · obtain rfl : a = a' := by rw [e] at e'; exact Loc.cell.inj e'
    rcases x with x | x <;> rcases x' with x' | x'
    · have := h.dis (k - 1) (k' - 1) _ (by omega) (by omega) x x'; omega
    · have := h.own (k - 1) (by omega) _ x; rw [x'] at this; dsimp only at this; omega
    · have := h.own (k' - 1) (by omega) _ x'; rw [x] at this; dsimp only at this; omega
    · rw [x] at x'
      have := h.ixd (k - 1) (k' - 1) (by omega) (by omega) (by omega) (by omega) (by injection x')
      omega
  · obtain rfl : a = a' := by rw [e] at e'; exact Loc.cell.inj e'
    rcases x with x | x
    · have := h.own (k - 1) (by omega) _ x; omega
    · rw [x] at y3; exact y3 rfl
  · obtain ⟨a', e', y⟩ | ⟨a', e', y⟩ := hsh
    · obtain rfl : a = a' := by rw [e] at e'; exact Loc.cell.inj e'
      have := h.hW
      rcases x with x | x
      · have := h.own (k - 1) (by omega) _ x; omega
      · rw [x] at y; exact h.hCW y
    · obtain rfl : a = a' := by rw [e] at e'; exact Loc.cell.inj e'
      have hy := h.old _ y
      rcases x with x | x
      · have := h.own (k - 1) (by omega) _ x; omega
      · rw [x] at hy; exact hy.2 rfl
  · obtain ⟨a', e', y⟩ | ⟨a', e', y⟩ := hsh
    · obtain rfl : a = a' := by rw [e] at e'; exact Loc.cell.inj e'
      exact y2 y
    · obtain rfl : a = a' := by rw [e] at e'; exact Loc.cell.inj e'
      exact y4 y

theorem Gm.growW (h : Gm Wg C B M j ix ow l0 sz) (hs : sz ≤ sz') {i : Nat} (hi : i < j) : Gm Wg C B M j ix (upd ow i (ow i ++ fresh sz sz')) l0 sz' := by
  have hB := h.hB
  have mem : ∀ a b, a < j → b ∈ upd ow i (ow i ++ fresh sz sz') a → (b ∈ ow a ∧ b < sz) ∨ (a = i ∧ sz ≤ b ∧ b < sz') := by
    intro a b ha hb
    by_cases e : a = i
    · subst e
      rw [upd_same, List.mem_append, mem_fresh] at hb
      exact hb.elim (fun x => .inl ⟨x, (h.own a ha b x).2⟩) fun x => .inr ⟨rfl, x⟩
    · rw [upd_ne ow _ e] at hb; exact .inl ⟨hb, (h.own a ha b hb).2⟩
  refine ⟨h.hW, h.hC, h.hCW, by omega, fun a ha b hb => ?_, fun b hb => by have := h.own0 b hb; omega, fun a a' b ha ha' hb hb' => ?_, fun a b ha hb hb0 => ?_, h.ixd, h.ixM, h.hel, h.old⟩
  · rcases mem a b ha hb with ⟨x, y⟩ | ⟨_, x⟩
    · have := h.own a ha b x; omega
    · omega
  · rcases mem a b ha hb with ⟨x, y⟩ | ⟨x, y⟩ <;> rcases mem a' b ha' hb' with ⟨x', y'⟩ | ⟨x', y'⟩
    · exact h.dis a a' b ha ha' x x'
    · omega
    · omega
    · omega
  · rcases mem a b ha hb with ⟨x, y⟩ | ⟨x, y⟩
    · exact h.dis0 a b ha x hb0
    · have := h.own0 b hb0; omega
theorem Gm.grow0 (h : Gm Wg C B M j ix ow l0 sz) (hs : sz ≤ sz') : Gm Wg C B M j ix ow (l0 ++ fresh sz sz') sz' := by
  have hB := h.hB
  refine ⟨h.hW, h.hC, h.hCW, by omega, fun a ha b hb => by have := h.own a ha b hb; omega, fun b hb => ?_, h.dis, fun a b ha hb hb0 => ?_, h.ixd, h.ixM, h.hel, h.old⟩
  · rw [List.mem_append, mem_fresh] at hb
    rcases hb with hb | hb
    · have := h.own0 b hb; omega
    · omega
  · rw [List.mem_append, mem_fresh] at hb0
    have := h.own a ha b hb
    exact hb0.elim (h.dis0 a b ha hb) (by omega)
/-- A go statement: some of the starter's blocks are handed to the new worker. -/
theorem Gm.fork (h : Gm Wg C B M j ix ow l0 sz) {idx : Nat} {l l0' : List Nat} (hl : ∀ b ∈ l, b ∈ l0) (hl0 : ∀ b, b ∈ l0' ↔ b ∈ l0 ∧ b ∉ l) (hi : ∀ i, OldE.el ≤ i → i < j → ix i ≠ idx) (hM : M idx) :
    Gm Wg C B M (j + 1) (upd ix j idx) (upd ow j l) l0' sz := by
  have mem : ∀ a b, a < j + 1 → b ∈ upd ow j l a → (a < j ∧ b ∈ ow a) ∨ (a = j ∧ b ∈ l) := by
    intro a b ha hb
    by_cases e : a = j
    · subst e; rw [upd_same] at hb; exact .inr ⟨rfl, hb⟩
    · rw [upd_ne ow _ e] at hb; exact .inl ⟨by omega, hb⟩
  refine ⟨h.hW, h.hC, h.hCW, h.hB, fun a ha b hb => ?_, fun b hb => h.own0 b ((hl0 b).1 hb).1, fun a a' b ha ha' hb hb' => ?_, fun a b ha hb hb0 => ?_, fun a a' la la' ha ha' e => ?_, fun a la ha => ?_, by have := h.hel; omega, h.old⟩
  · rcases mem a b ha hb with ⟨x, y⟩ | ⟨_, y⟩
    · exact h.own a x b y
    · exact h.own0 b (hl b y)
  · rcases mem a b ha hb with ⟨x, y⟩ | ⟨x, y⟩ <;> rcases mem a' b ha' hb' with ⟨x', y'⟩ | ⟨x', y'⟩
    · exact h.dis a a' b x x' y y'
    · exact absurd (hl b y') (h.dis0 a b x y)
    · exact absurd (hl b y) (h.dis0 a' b x' y')
    · omega
  · have hb0 := (hl0 b).1 hb0
    rcases mem a b ha hb with ⟨x, y⟩ | ⟨x, y⟩
    · exact h.dis0 a b x y hb0.1
    · exact hb0.2 y
  · by_cases e1 : a = j <;> by_cases e2 : a' = j
    · omega
    · subst e1; rw [upd_same, upd_ne ix _ e2] at e; exact absurd e.symm (hi a' la' (by omega))
    · subst e2; rw [upd_same, upd_ne ix _ e1] at e; exact absurd e (hi a la (by omega))
    · rw [upd_ne ix _ e1, upd_ne ix _ e2] at e; exact h.ixd a a' la la' (by omega) (by omega) e
  · by_cases e : a = j
    · subst e; rw [upd_same]; exact hM
    · rw [upd_ne ix _ e]; exact h.ixM a la (by omega)
end

omit [OldG] [OldE] in
/-- The families may grow by places that nobody has touched. -/
theorem ct_grow {Sh : Loc → Prop} {Own Own' Rd : Nat → Loc → Prop} {t : Trace} {j : Nat} (h : CT Sh Own Rd t j) (h1 : ∀ k l, 1 ≤ k → k ≤ j → Own k l → Own' k l)
    (h2 : ∀ k l, 1 ≤ k → k ≤ j → Own' k l → Own k l ∨ ∀ i a, touchAt t i = some a → a.loc ≠ l) : CT Sh Own' Rd t j :=
  ⟨h.quiet, fun k k1 kj l hl => (h2 k l k1 kj hl).elim (h.own k k1 kj l) fun hn i a ha e => absurd e (hn i a ha), h.rd,
    fun l hs hl => h.free l hs fun k k1 kj => ⟨fun ho => (hl k k1 kj).1 (h1 k l k1 kj ho), (hl k k1 kj).2⟩, fun l hs hl => h.mine l hs fun k k1 kj ho => hl k k1 kj (h1 k l k1 kj ho), h.nr, h.gs⟩

/-- What is touched lies in a block below sz; what is touched atomically is the group's. -/
def lowT (Wg sz : Nat) (act : MemAct) : Prop := ∀ x, act.touch? = some x → (∀ ad, x.loc = .cell ad → ad.block < sz) ∧ (x.kind = .atomic → ShN Wg x.loc) ∧ x.loc.isMemory = true
omit [OldG] [OldE] in
theorem lowT_mono {Wg a b : Nat} (h : a ≤ b) {act : MemAct} (hl : lowT Wg a act) : lowT Wg b act := fun x hx => ⟨fun ad e => Nat.lt_of_lt_of_le ((hl x hx).1 ad e) h, (hl x hx).2⟩
omit [OldG] [OldE] in
theorem lowT_none {Wg sz : Nat} {act : MemAct} (h : act.touch? = none) : lowT Wg sz act := fun x hx => by rw [h] at hx; cases hx
omit [OldG] [OldE] in
theorem lowT_cell {Wg sz : Nat} (a : Addr) (x : Bool) (h : a.block < sz) : lowT Wg sz (MemAct.ofEvent ⟨.cell a, x, false⟩) := by
  intro z hz
  rw [Go.ConcR.ofEvent_cell] at hz
  simp only [MemAct.touch?, Option.some.injEq] at hz
  subst hz
  refine ⟨fun ad e => ?_, fun e => ?_, rfl⟩
  · simp only [Loc.cell.injEq] at e
    subst e
    exact h
  · simp at e
omit [OldG] [OldE] in
theorem lowT_wg {Wg sz : Nat} (a : Addr) (x y : Bool) (ha : a.block = Wg) (h : Wg < sz) : lowT Wg sz (MemAct.ofEvent ⟨.cell a, x, y⟩) := by
  intro z hz
  rw [Go.ConcR.ofEvent_cell] at hz
  simp only [MemAct.touch?, Option.some.injEq] at hz
  subst hz
  refine ⟨fun ad e => ?_, fun _ => ⟨a, rfl, ha⟩, rfl⟩
  simp only [Loc.cell.injEq] at e
  subst e
  omega
omit [OldG] in
/-- .. the atomic touches of goroutine 0 and of the elder ones are let be. -/
def lowG (Wg sz : Nat) (op : MemOp) : Prop := ∀ x, op.act.touch? = some x → (∀ ad, x.loc = .cell ad → ad.block < sz) ∧ (OldE.el < op.g → x.kind = .atomic → ShN Wg x.loc) ∧ (op.g ≠ 0 → x.loc.isMemory = true)
omit [OldG] in
theorem lowT.g {Wg sz : Nat} {op : MemOp} (h : lowT Wg sz op.act) : lowG Wg sz op := fun x hx => ⟨(h x hx).1, fun _ => (h x hx).2.1, fun _ => (h x hx).2.2⟩
omit [OldG] in
theorem lowG_mono {Wg a b : Nat} (h : a ≤ b) {op : MemOp} (hl : lowG Wg a op) : lowG Wg b op := fun x hx => ⟨fun ad e => Nat.lt_of_lt_of_le ((hl x hx).1 ad e) h, (hl x hx).2⟩
omit [OldG] in
theorem low_touch {t : Trace} {Wg sz : Nat} (h : ∀ op ∈ t, lowG Wg sz op) {i : Nat} {a : Touch} (ha : touchAt t i = some a) {ad : Addr} (e : a.loc = .cell ad) : ad.block < sz := by
  obtain ⟨x, hx, hxa⟩ := touch_of ha
  exact (h x (Array.mem_of_getElem? hx) a hxa).1 ad e

/-- What the elder ones have touched is known to goroutine 0, or is an atomic touch of a shared place. -/
def PastE (Wg : Nat) (t : Trace) : Prop := ∀ (i : Nat) (op : MemOp) (x : Touch), t[i]? = some op → op.act.touch? = some x → x.loc.isMemory = true → op.g ≠ 0 → op.g ≤ OldE.el → Knows t 0 i ∨ (ShO Wg x.loc ∧ x.kind = .atomic)
/-- .. what counts of it is handed over. -/
def OverE (t : Trace) : Prop := ∀ i g, t.g? i = some g → g ≠ 0 → g ≤ OldE.el → t.counts i → ∃ q, t.g? q = some 0 ∧ HappensBefore t i q
/-- Operations that are no elder one's touches. -/
def NoElder (u : Trace) : Prop := ∀ op ∈ u, op.g = 0 ∨ OldE.el < op.g ∨ op.act.touch? = none
theorem PastE.app {Wg : Nat} {t u : Trace} (h : PastE Wg t) (hu : NoElder u) : PastE Wg (t ++ u) := by
  intro i op x hi hx hm h0 he
  rcases getElem?_append_cases hi with ⟨_, hi'⟩ | ⟨_, hiu⟩
  · exact (h i op x hi' hx hm h0 he).imp (·.app u) id
  · rcases hu op hiu with h1 | h1 | h1
    · exact absurd h1 h0
    · omega
    · rw [h1] at hx; cases hx
omit [OldG] in
theorem OverE.app {t u : Trace} (h : OverE t) (hu : NoElder u) : OverE (t ++ u) := by
  intro i g hg hne he hc
  obtain ⟨x, hx, hx'⟩ := hc
  obtain ⟨op, hop, hox⟩ := touch_of hx
  rcases getElem?_append_cases hop with ⟨hi, hop'⟩ | ⟨_, hopu⟩
  · obtain ⟨j, hj, hb⟩ := h i g (by simpa [Trace.g?, getElem?_append_old hi] using hg) hne he ((counts_old hi).1 ⟨x, hx, hx'⟩)
    have hjl : j < t.size := by
      unfold Trace.g? at hj
      obtain ⟨z, hz, _⟩ := Option.map_eq_some_iff.1 hj
      exact lt_size_of_getElem? hz
    exact ⟨j, by simpa [Trace.g?, getElem?_append_old hjl] using hj, hb_app u hb⟩
  · have e : op.g = g := by simpa [Trace.g?, hop] using hg
    rcases hu op hopu with h1 | h1 | h1
    · omega
    · omega
    · rw [h1] at hox; cases hox
omit [OldG] in
theorem noElder_of {i : Nat} {fn : FuncId} {pos : String} {es : Array Event} (h : i = 0 ∨ OldE.el < i) : NoElder (MemOp.ofEvents i fn pos es) := fun op hop => by
  obtain ⟨e, _, rfl⟩ := Go.Conc.mem_ofEvents hop
  exact h.imp id .inl

omit [OldE] in
theorem okW_bk {Wg : Nat} {Own Rd : Nat → Loc → Prop} {k : Nat} {fn : FuncId} {pos : String} {es : Array Event} (h : ∀ e ∈ es, Go.ConcR.Bk Wg e) : ∀ op ∈ MemOp.ofEvents k fn pos es, OkW (ShO Wg) Own Rd k op :=
  fun op hop => let y := okW_of_Bk h op hop; ⟨y.1, fun x hx => (y.2 x hx).imp (fun z => ⟨.inl z.1, z.2⟩) id⟩
omit [OldE] in
theorem okW_not {Wg : Nat} {Own Rd : Nat → Loc → Prop} {k : Nat} {fn : FuncId} {pos : String} {es : Array Event} (h : ∀ e ∈ es, (MemAct.ofEvent e).touch? = none) : ∀ op ∈ MemOp.ofEvents k fn pos es, OkW (ShO Wg) Own Rd k op := fun op hop => by
  obtain ⟨e, he, rfl⟩ := Go.Conc.mem_ofEvents hop
  exact ⟨rfl, fun x hx => by simp only [h e he] at hx; cases hx⟩
omit [OldE] in
theorem ok0_bk {Wg j : Nat} {Own Rd : Nat → Loc → Prop} {fn : FuncId} {pos : String} {es : Array Event} (h : ∀ e ∈ es, Go.ConcR.Bk Wg e) : ∀ op ∈ MemOp.ofEvents 0 fn pos es, Ok0 (ShO Wg) Own Rd j op := fun op hop => by
  obtain ⟨e, he, rfl⟩ := Go.Conc.mem_ofEvents hop
  refine ⟨rfl, fun x hx => ?_⟩
  rcases h e he with h1 | h1 | ⟨a, wr, rfl, ha⟩
  · simp only [Go.ConcR.ofEvent_loc_mark h1] at hx; cases hx
  · simp only [Go.ConcR.ofEvent_loc_mark h1] at hx; cases hx
  · simp only [Go.ConcR.ofEvent_cell, MemAct.touch?, Option.some.injEq] at hx
    subst hx
    exact .inl ⟨.inl ⟨a, rfl, ha⟩, by simp⟩
omit [OldE] in
theorem notShO {Wg : Nat} {b : Addr} (h1 : b.block ≠ Wg) (h2 : ¬ OldG.old b.block) : ¬ ShO Wg (.cell b) := fun h =>
  h.elim (fun ⟨a, e, y⟩ => by obtain rfl := Loc.cell.inj e; exact h1 y) (fun ⟨a, e, y⟩ => by obtain rfl := Loc.cell.inj e; exact h2 y)

/-- Nothing is released on the group's state since the fork began, but what is merged. -/
def NoRelS (Wg : Nat) (t : Trace) : Prop := ∀ i, OldE.ts ≤ i → t.act? i ≠ some (.mark (.release (stA Wg)))
omit [OldG] in
theorem NoRelS.app {Wg : Nat} {t u : Trace} (h : NoRelS Wg t) (hu : ∀ op ∈ u, op.act ≠ .mark (.release (stA Wg))) : NoRelS Wg (t ++ u) := fun i hi e => by
  obtain ⟨op, hop, hoe⟩ := Option.map_eq_some_iff.1 e
  rcases getElem?_append_cases hop with ⟨_, hop'⟩ | ⟨_, hopu⟩
  · exact h i hi (by unfold Trace.act?; rw [hop']; exact congrArg some hoe)
  · exact hu op hopu hoe
omit [OldG] [OldE] in
theorem norelS_of {Wg i : Nat} {fn : FuncId} {pos : String} {es : Array Event} (h : ∀ e ∈ es, e.loc ≠ .mark (.release (stA Wg))) : ∀ op ∈ MemOp.ofEvents i fn pos es, op.act ≠ .mark (.release (stA Wg)) := norel_of h

omit [OldG] in
/-- Goroutine 0 has acquired what all the workers have released. -/
def AcqE (Wg j : Nat) (t : Trace) : Prop :=
  ∃ q, t.act? q = some (.mark (.acquire (stA Wg))) ∧ t.g? q = some 0 ∧ t.heard q ∧ ∀ i, OldE.el ≤ i → i < j → ∃ r, RelBy (stA Wg) t (i + 1) r ∧ r < q ∧ OldE.ts ≤ r
omit [OldG] in
theorem AcqE.app {Wg j : Nat} {t u : Trace} (h : AcqE Wg j t) (hu : ∀ i r, OldE.el ≤ i → i < j → RelBy (stA Wg) t (i + 1) r → RelBy (stA Wg) (t ++ u) (i + 1) r) : AcqE Wg j (t ++ u) := by
  obtain ⟨q, h1, h2, h3, h4⟩ := h
  have hq := lt_of_act? h1
  exact ⟨q, by rw [act?_old hq]; exact h1, by rw [g?_old hq]; exact h2, (heard_old hq).2 h3, fun i hl hi => let ⟨r, hr, hrq⟩ := h4 i hl hi; ⟨r, hu i r hl hi hr, hrq⟩⟩

end Go.Gh

/-
  Workers that make memory, and their starter: what holds at every moment, and how a step keeps it.
-/
namespace Go.Gh
open Go.Conc Go.ConcN
open Go.ConcR (KK WgAt stA smA rd wr mk Payload DC0 g_of_ofEvents Bk)
variable [Payload] [OldG] [OldE] [Out0]

section
variable (P : Program) (ty : TypeId) (Wg C n B : Nat) (M : Nat → Prop) (WP : Nat → Value → World → Prop)
structure Cm (j : Nat) (gs : Array Goroutine) (W : World) (t : Trace) (D : Nat → WD) (ix : Nat → Nat) (ow : Nat → List Nat) (l0 : List Nat) (d0 : Nat) : Prop where
  size : gs.size = j + 1
  wk : ∀ i, OldE.el ≤ i → i < j → ∃ g, gs[i + 1]? = some g ∧ WS P ty Wg C n B WP (ix i) (ow i) (D i).stage (D i).fuel (D i).deaf g W
  eld : ∀ i, i < OldE.el → ∃ g, gs[i + 1]? = some g ∧ (D i).stage = 1 ∧ QuitsD P (D i).fuel (D i).deaf g
  past : PastE Wg t
  over : OverE t
  ct : CT (ShO Wg) (OwnF C j ix ow) (RdF Wg C B) t j
  norel : NoRelS Wg t
  hts : OldE.ts ≤ t.size
  low : ∀ op ∈ t, lowG Wg W.heap.size op
  deaf0 : Deaf t 0 = d0
  deafW : ∀ i, i < j → Deaf t (i + 1) = (D i).deaf
  rel : ∀ i, OldE.el ≤ i → i < j → (D i).stage ≤ 6 → ∃ r, RelBy (stA Wg) t (i + 1) r ∧ OldE.ts ≤ r
  pay : PayAt C n W
  gm : Gm Wg C B M j ix ow l0 W.heap.size
  out : W.output = Out0.o0
  os : W.os = Out0.os0
end

section
variable {P : Program} {ty : TypeId} {Wg C n B : Nat} {M : Nat → Prop} {WP : Nat → Value → World → Prop} {j : Nat} {gs : Array Goroutine} {W W' : World} {t : Trace} {D : Nat → WD} {ix : Nat → Nat} {ow : Nat → List Nat} {l0 : List Nat} {d0 : Nat}

omit [Payload] [OldG] [OldE] [Out0] in
theorem out_same {P : Program} {main : Bool} {g g' : Goroutine} {es : Array Event} (h : stepG P main g W = .go g' W' es) : W'.output = W.output := (stepG_go_out P W.output (w := W) h).2

omit [Payload] [OldG] [Out0] in
theorem low_app {u : Trace} {a b : Nat} (h : ∀ op ∈ t, lowG Wg a op) (hab : a ≤ b) (hu : ∀ op ∈ u, lowT Wg b op.act) : ∀ op ∈ t ++ u, lowG Wg b op := fun op hop => (Array.mem_append.1 hop).elim (fun x => lowG_mono hab (h op x)) (fun x => (hu op x).g)

theorem Cm.at (hWP : ∀ idx v w w₁, Ro Wg C n B (fun _ => False) w w₁ → WP idx v w → WP idx v w₁) (h : Cm P ty Wg C n B M WP j gs W t D ix ow l0 d0) (d : Nat) : Cm P ty Wg C n B M WP j gs (W.at d) t D ix ow l0 d0 :=
  ⟨h.size, fun i hEl hi => let ⟨g, hg, hs⟩ := h.wk i hEl hi
    ⟨g, hg, hs.rely (hWP _) (lo := []) (Cm := fun _ => False) (Chg.at W d) h.gm.hB (by simp) (fun b hb => ⟨by simp, (h.gm.own i hi b hb).2, by have := (h.gm.own i hi b hb).1; have := h.gm.hC; omega, by have := (h.gm.own i hi b hb).1; have := h.gm.hW; omega⟩) id⟩, h.eld, h.past, h.over, h.ct, h.norel, h.hts, h.low, h.deaf0, h.deafW, h.rel, h.pay, h.gm, h.out, h.os⟩

omit [Payload] [Out0] in
theorem ownF_grow (hl : ∀ op ∈ t, lowG Wg W.heap.size op) (hct : CT (ShO Wg) (OwnF C j ix ow) (RdF Wg C B) t j) (i : Nat) :
    CT (ShO Wg) (OwnF C j ix (upd ow i (ow i ++ fresh W.heap.size W'.heap.size))) (RdF Wg C B) t j := by
  refine ct_grow hct (fun k l _ kj ⟨k1, _, a, e, x⟩ => ⟨k1, kj, a, e, x.imp (fun y => ?_) id⟩) (fun k l _ kj ⟨k1, _, a, e, x⟩ => ?_)
  · by_cases ek : k - 1 = i
    · rw [ek, upd_same]; rw [ek] at y; exact List.mem_append_left _ y
    · rw [upd_ne ow _ ek]; exact y
  · rcases x with x | x
    · by_cases ek : k - 1 = i
      · rw [ek, upd_same, List.mem_append, mem_fresh] at x
        rcases x with x | x
        · exact .inl ⟨k1, kj, a, e, .inl (by rw [ek]; exact x)⟩
        · exact .inr fun i' b hb e' => by have := low_touch hl hb (e'.trans e); omega
      · rw [upd_ne ow _ ek] at x; exact .inl ⟨k1, kj, a, e, .inl x⟩
    · exact .inl ⟨k1, kj, a, e, .inr x⟩

/-- A step of worker number i. -/
theorem Cm.stepW (hWP : ∀ idx v w w₁, Ro Wg C n B (fun _ => False) w w₁ → WP idx v w → WP idx v w₁) (h : Cm P ty Wg C n B M WP j gs W t D ix ow l0 d0) {i : Nat} (hEl : OldE.el ≤ i) (hi : i < j) {g g' : Goroutine} {fn : FuncId} {pos : String} {es : Array Event} {s' m' dd' : Nat}
    (hc : Chg ty Wg C n (ow i) (· = ix i) W W') (hs' : WS P ty Wg C n B WP (ix i) (ow i ++ fresh W.heap.size W'.heap.size) s' m' dd' g' W')
    (hok : ∀ op ∈ MemOp.ofEvents (i + 1) fn pos es, OkW (ShO Wg) (OwnF C j ix (upd ow i (ow i ++ fresh W.heap.size W'.heap.size))) (RdF Wg C B) (i + 1) op) (hlow : ∀ e ∈ es, lowT Wg W'.heap.size (MemAct.ofEvent e))
    (hnr : ∀ e ∈ es, e.loc ≠ .mark (.release (stA Wg))) (hdeaf : deafBehind (D i).deaf es = dd')
    (hrel : s' ≤ 6 → ∃ r, RelBy (stA Wg) (t ++ MemOp.ofEvents (i + 1) fn pos es) (i + 1) r ∧ OldE.ts ≤ r) (ho : W'.output = W.output) :
    Cm P ty Wg C n B M WP j ((gs.map (woken P g g' W')).setIfInBounds (i + 1) g') W' (t ++ MemOp.ofEvents (i + 1) fn pos es) (upd D i ⟨s', m', dd'⟩) ix (upd ow i (ow i ++ fresh W.heap.size W'.heap.size)) l0 d0 := by
  have gm' := h.gm.growW (sz' := W'.heap.size) hc.size hi
  refine ⟨by simp [h.size], fun i' hl' hi' => ?_, fun i' hl' => ?_, h.past.app (noElder_of (.inr (by omega))), h.over.app (noElder_of (.inr (by omega))), (ownF_grow h.low h.ct i).appW gm'.apart (by omega) (by omega) hok, h.norel.app (norel_of hnr), by have := h.hts; simp only [Array.size_append]; omega,
    low_app h.low hc.size (fun op hop => by obtain ⟨e, he, rfl⟩ := Go.Conc.mem_ofEvents hop; exact hlow e he), by rw [Deaf_other t (by omega) _ g_of_ofEvents, h.deaf0], fun i' hi' => ?_, fun i' hl' hi' hst => ?_, hc.pay h.pay, gm', ho.trans h.out, hc.os.trans h.os⟩
  rotate_left
  · obtain ⟨x, hx, hx1, hx2⟩ := h.eld i' hl'
    refine ⟨x, by rw [get_map_set _ _ _ _ (by omega), hx, Option.map_some, woken_quitsD hx2], ?_⟩
    rw [upd_ne D _ (by omega)]
    exact ⟨hx1, hx2⟩
  rotate_left 2
  · by_cases e : i' = i
    · subst e
      exact ⟨g', get_map_set_same _ _ _ (by rw [h.size]; omega), by rw [upd_same, upd_same]; exact hs'⟩
    · obtain ⟨x, hx, hsx⟩ := h.wk i' hl' hi'
      refine ⟨x, by rw [get_map_set _ _ _ _ (by omega), hx, Option.map_some, hsx.woken], ?_⟩
      rw [upd_ne D _ e, upd_ne ow _ e]
      refine hsx.rely (hWP _) hc h.gm.hB (fun b hb => (h.gm.own i hi b hb).1) (fun b hb => ⟨fun hb' => e (h.gm.dis i' i b hi' hi hb hb'), (h.gm.own i' hi' b hb).2, ?_, ?_⟩) (fun e' => e (h.gm.ixd i' i hl' hEl hi' hi e'))
      · have := (h.gm.own i' hi' b hb).1; have := h.gm.hC; omega
      · have := (h.gm.own i' hi' b hb).1; have := h.gm.hW; omega
  · by_cases e : i' = i
    · subst e; rw [Deaf_own, h.deafW i' hi', upd_same]; exact hdeaf
    · rw [Deaf_other t (by omega) _ g_of_ofEvents, h.deafW i' hi', upd_ne D _ e]
  · by_cases e : i' = i
    · subst e; rw [upd_same] at hst; exact hrel hst
    · rw [upd_ne D _ e] at hst
      obtain ⟨r, hr, hrs⟩ := h.rel i' hl' hi' hst
      exact ⟨r, hr.appOther g_of_ofEvents (by omega), hrs⟩

/-- A step of the starter's. -/
theorem Cm.step0 (hWP : ∀ idx v w w₁, Ro Wg C n B (fun _ => False) w w₁ → WP idx v w → WP idx v w₁) (h : Cm P ty Wg C n B M WP j gs W t D ix ow l0 d0) {a a' : Goroutine} {fn : FuncId} {pos : String} {es : Array Event}
    (hc : Chg ty Wg C n l0 (fun i => ¬ M i) W W')
    (hok : ∀ op ∈ MemOp.ofEvents 0 fn pos es, Ok0 (ShO Wg) (OwnF C j ix ow) (RdF Wg C B) j op) (hlow : ∀ e ∈ es, lowT Wg W'.heap.size (MemAct.ofEvent e)) (hnr : ∀ e ∈ es, e.loc ≠ .mark (.release (stA Wg))) (ho : W'.output = W.output) :
    Cm P ty Wg C n B M WP j ((gs.map (woken P a a' W')).setIfInBounds 0 a') W' (t ++ MemOp.ofEvents 0 fn pos es) D ix ow (l0 ++ fresh W.heap.size W'.heap.size) (deafBehind d0 es) := by
  refine ⟨by simp [h.size], fun i hEl hi => ?_, fun i hi => ?_, h.past.app (noElder_of (.inl rfl)), h.over.app (noElder_of (.inl rfl)), h.ct.app0 h.gm.apart hok, h.norel.app (norel_of hnr), by have := h.hts; simp only [Array.size_append]; omega, low_app h.low hc.size (fun op hop => by obtain ⟨e, he, rfl⟩ := Go.Conc.mem_ofEvents hop; exact hlow e he),
    by rw [Deaf_own, h.deaf0], fun i hi => by rw [Deaf_other t (by omega) _ g_of_ofEvents, h.deafW i hi], fun i hEl hi hst => ?_, hc.pay h.pay, h.gm.grow0 hc.size, ho.trans h.out, hc.os.trans h.os⟩
  · obtain ⟨x, hx, hsx⟩ := h.wk i hEl hi
    refine ⟨x, by rw [get_map_set _ _ _ _ (by omega), hx, Option.map_some, hsx.woken], hsx.rely (hWP _) hc h.gm.hB (fun b hb => (h.gm.own0 b hb).1) (fun b hb => ⟨h.gm.dis0 i b hi hb, (h.gm.own i hi b hb).2, ?_, ?_⟩) (fun hn => hn (h.gm.ixM i hEl hi))⟩
    · have := (h.gm.own i hi b hb).1; have := h.gm.hC; omega
    · have := (h.gm.own i hi b hb).1; have := h.gm.hW; omega
  · obtain ⟨x, hx, hx1, hx2⟩ := h.eld i hi
    exact ⟨x, by rw [get_map_set _ _ _ _ (by omega), hx, Option.map_some, woken_quitsD hx2], hx1, hx2⟩
  · obtain ⟨r, hr, hrs⟩ := h.rel i hEl hi hst
    exact ⟨r, hr.appOther g_of_ofEvents (by omega), hrs⟩

/-- A go statement. -/
theorem Cm.spawn (h : Cm P ty Wg C n B M WP j gs W t D ix ow l0 0) {a' child : Goroutine} {x y : MemOp} {m idx : Nat} {l l0' : List Nat} (hx : x.g = 0 ∧ x.act = .go (j + 1)) (hy : y.g = j + 1 ∧ y.act = .start)
    (hl : ∀ b ∈ l, b ∈ l0) (hl0 : ∀ b, b ∈ l0' ↔ b ∈ l0 ∧ b ∉ l) (hid : ∀ i, OldE.el ≤ i → i < j → ix i ≠ idx) (hM : M idx) (hc : Wk P ty Wg C n B WP idx m child (gw W l)) :
    Cm P ty Wg C n B M WP (j + 1) ((gs.setIfInBounds 0 a').push child) W (t ++ #[x, y]) (upd D j ⟨7, m + 24, 0⟩) (upd ix j idx) (upd ow j l) l0' 0 := by
  have gm' := h.gm.fork hl hl0 hid hM
  have hm : ∀ op ∈ #[x, y], op = x ∨ op = y := by intro op hop; simpa using hop
  have hst : ∀ op ∈ #[x, y], op.act ≠ .mark .disable ∧ op.act ≠ .mark .enable := by
    intro op hop
    rcases hm op hop with rfl | rfl
    · rw [hx.2]; exact ⟨by simp, by simp⟩
    · rw [hy.2]; exact ⟨by simp, by simp⟩
  have hct : CT (ShO Wg) (OwnF C (j + 1) (upd ix j idx) (upd ow j l)) (RdF Wg C B) t j := by
    refine ct_grow h.ct (fun k l' _ kj ⟨k1, _, a, e, z⟩ => ⟨k1, by omega, a, e, ?_⟩) (fun k l' _ kj ⟨k1, _, a, e, z⟩ => .inl ⟨k1, kj, a, e, ?_⟩)
    · rw [upd_ne ow _ (by omega), upd_ne ix _ (by omega)]; exact z
    · rw [upd_ne ow _ (by omega), upd_ne ix _ (by omega)] at z; exact z
  have hel := h.gm.hel
  have hne : NoElder #[x, y] := fun op hop => (hm op hop).elim (fun e => .inl (by rw [e]; exact hx.1)) (fun e => .inr (.inl (by rw [e, hy.1]; omega)))
  refine ⟨by simp [h.size], fun i hEl hi => ?_, fun i hi => ?_, h.past.app hne, h.over.app hne, hct.fork gm'.apart hx hy h.deaf0, h.norel.app fun op hop => ?_, by have := h.hts; simp only [Array.size_append]; omega, low_app h.low (Nat.le_refl _) (fun op hop => ?_), by rw [Deaf_still t 0 _ hst, h.deaf0], fun i hi => ?_, fun i hEl hi hs => ?_, h.pay, gm', h.out, h.os⟩
  · rcases Nat.lt_or_ge i j with hlt | hge
    · obtain ⟨g, hg, hsg⟩ := h.wk i hEl hlt
      refine ⟨g, ?_, by rw [upd_ne D _ (by omega), upd_ne ix _ (by omega), upd_ne ow _ (by omega)]; exact hsg⟩
      rw [Array.getElem?_push_lt (by simp [h.size]; omega), ← Array.getElem?_eq_getElem, Array.getElem?_setIfInBounds_ne (by omega)]
      exact hg
    · obtain rfl : i = j := by omega
      refine ⟨child, ?_, by rw [upd_same, upd_same, upd_same]; exact .comp hc⟩
      rw [show i + 1 = (gs.setIfInBounds 0 a').size by simp [h.size], Array.getElem?_push_size]
  · obtain ⟨g, hg, hg1, hg2⟩ := h.eld i hi
    refine ⟨g, ?_, by rw [upd_ne D _ (by omega)]; exact ⟨hg1, hg2⟩⟩
    rw [Array.getElem?_push_lt (by simp [h.size]; omega), ← Array.getElem?_eq_getElem, Array.getElem?_setIfInBounds_ne (by omega)]
    exact hg
  · rcases hm op hop with rfl | rfl
    · rw [hx.2]; simp
    · rw [hy.2]; simp
  · rcases hm op hop with rfl | rfl
    · rw [hx.2]; exact lowT_none rfl
    · rw [hy.2]; exact lowT_none rfl
  · rw [Deaf_still t _ _ hst]
    rcases Nat.lt_or_ge i j with hlt | hge
    · rw [h.deafW i hlt, upd_ne D _ (by omega)]
    · obtain rfl : i = j := by omega
      rw [upd_same]
      exact Deaf_absent fun a op ha e => by have := h.ct.gs a op ha; omega
  · rcases Nat.lt_or_ge i j with hlt | hge
    · rw [upd_ne D _ (by omega)] at hs
      obtain ⟨r, hr, hrs⟩ := h.rel i hEl hlt hs
      refine ⟨r, hr.appNot (fun op hop => ?_), hrs⟩
      rcases hm op hop with rfl | rfl
      · rw [hx.1]; omega
      · rw [hy.1]; omega
    · obtain rfl : i = j := by omega
      rw [upd_same] at hs
      simp at hs
end

end Go.Gh

/-
  Workers that make memory, and their starter: the invariant; a step of a worker's keeps it and lowers the measure.
-/
namespace Go.Gh
open Go.Conc Go.ConcN
open Go.ConcR (KK WgAt stA smA rd wr mk Payload DC0 g_of_ofEvents Bk bk_of_mute ofEvent_loc_mark ofEvent_cell)
variable [Payload] [OldG] [OldE] [Out0]

omit [Payload] [OldG] [OldE] [Out0] in
theorem fresh_self (a : Nat) : fresh a a = [] := by simp [fresh]

section
variable (P : Program) (ty : TypeId) (Wg C n B : Nat) (M : Nat → Prop) (WP : Nat → Value → World → Prop) (K : List Nat → Goroutine → World → Prop) (N : Nat)
def Iv (μ : Nat × Nat) (m : Machine) (t : Trace) : Prop :=
  ∃ (gs : Array Goroutine) (W : World) (sl : Option (Nat × Nat)) (j : Nat) (D : Nat → WD) (ix : Nat → Nat) (ow : Nat → List Nat) (tag : CTag) (r f0 d0 : Nat) (a : Goroutine) (st sm : Int) (l0 ids : List Nat),
    m = crowd gs W sl ∧ gs[0]? = some a ∧ MS P ty Wg C n B M WP K ids l0 tag r f0 d0 a W ∧ Cm P ty Wg C n B M WP j gs W t D ix ow l0 d0 ∧ WgAt ty Wg W st sm ∧ ConcN.Mode j D tag st sm ∧
    (tag = .ret → AcqE Wg j t) ∧ (∀ i, OldE.el ≤ i → i < j → ix i ∈ ids) ∧ (∀ x ∈ ids, ∃ i, OldE.el ≤ i ∧ i < j ∧ ix i = x) ∧ j + r = N ∧ μ = (phi N (Vc j D) tag + Ssum j D, f0 + 2 * Fsum j D)
/-- What the two sides' facts must bear. -/
structure Bears : Prop where
  wp : ∀ idx v w w₁, Ro Wg C n B (fun _ => False) w w₁ → WP idx v w → WP idx v w₁
  k : ∀ ids g w w₁, Ro Wg C n B (fun i => ¬ M i) w w₁ → K ids g w → K ids g w₁
end

section
variable {P : Program} {ty : TypeId} {Wg C n B : Nat} {M : Nat → Prop} {WP : Nat → Value → World → Prop} {K : List Nat → Goroutine → World → Prop} {N : Nat}
  {gs : Array Goroutine} {W W' : World} {sl : Option (Nat × Nat)} {j : Nat} {D : Nat → WD} {ix : Nat → Nat} {ow : Nat → List Nat} {tag : CTag} {r f0 d0 : Nat} {a : Goroutine} {t : Trace} {st sm : Int} {l0 ids : List Nat}

/-- Whatever step of worker number i. -/
theorem workerGo (hb : Bears Wg C n B M WP K) (ha : gs[0]? = some a) (hms : MS P ty Wg C n B M WP K ids l0 tag r f0 d0 a W) (hcm : Cm P ty Wg C n B M WP j gs W t D ix ow l0 d0)
    (hi1 : ∀ i, OldE.el ≤ i → i < j → ix i ∈ ids) (hi2 : ∀ x ∈ ids, ∃ i, OldE.el ≤ i ∧ i < j ∧ ix i = x) (hN : j + r = N)
    {i : Nat} (hEl : OldE.el ≤ i) (hi : i < j) {g g' : Goroutine} {es : Array Event} {s' m' dd' : Nat} {st' sm' : Int} (hg : gs[i + 1]? = some g) (hgo : stepG P false g W = .go g' W' es)
    (hc : Chg ty Wg C n (ow i) (· = ix i) W W') (hs' : WS P ty Wg C n B WP (ix i) (ow i ++ fresh W.heap.size W'.heap.size) s' m' dd' g' W')
    (hok : ∀ op ∈ MemOp.ofEvents (i + 1) g.frame.fn g.frame.place es, OkW (ShO Wg) (OwnF C j ix (upd ow i (ow i ++ fresh W.heap.size W'.heap.size))) (RdF Wg C B) (i + 1) op) (hlow : ∀ e ∈ es, lowT Wg W'.heap.size (MemAct.ofEvent e))
    (hnr : ∀ e ∈ es, e.loc ≠ .mark (.release (stA Wg))) (hdeaf : deafBehind (D i).deaf es = dd')
    (hrel : s' ≤ 6 → ∃ r, RelBy (stA Wg) (t ++ MemOp.ofEvents (i + 1) g.frame.fn g.frame.place es) (i + 1) r ∧ OldE.ts ≤ r) (hwg : WgAt ty Wg W' st' sm')
    (hmode : ∀ tag', (tag' = tag ∨ (tag = .blk ∧ tag' = .w3)) → (mayWake P g = true → g'.status = .running → tag' ≠ .blk) → ConcN.Mode j (upd D i ⟨s', m', dd'⟩) tag' st' sm')
    (hacq : tag = .ret → AcqE Wg j (t ++ MemOp.ofEvents (i + 1) g.frame.fn g.frame.place es))
    (hlt : (s' < (D i).stage ∧ cnt ⟨s', m', dd'⟩ ≤ cnt (D i)) ∨ (s' = (D i).stage ∧ m' + 1 ≤ (D i).fuel)) :
    ∃ m₁ ops μ', runT P (crowd gs W sl) (i + 1) = (.next m₁, ops) ∧ Lt2 μ' (phi N (Vc j D) tag + Ssum j D, f0 + 2 * Fsum j D) ∧ Iv P ty Wg C n B M WP K N μ' m₁ (t ++ ops) := by
  have hms1 := hms.rely hb.k hc hcm.gm.hB (fun b hb => (hcm.gm.own i hi b hb).1) (fun b hb0 => ⟨fun hbi => hcm.gm.dis0 i b hi hbi hb0, (hcm.gm.own0 b hb0).2, by have := (hcm.gm.own0 b hb0).1; have := hcm.gm.hC; omega, by have := (hcm.gm.own0 b hb0).1; have := hcm.gm.hW; omega⟩) (fun x hx => by subst hx; exact hcm.gm.ixM i hEl hi)
  obtain ⟨tag', f', hms', hf', htag, hwk⟩ := hms1.wokenBy g g'
  have hrun := runT_crowd_go (P := P) (sl := sl) (i := i + 1) hg (by simpa using hgo)
  have e1 := sumTo_upd D (⟨s', m', dd'⟩ : WD) cnt hi
  have e2 := sumTo_upd D (⟨s', m', dd'⟩ : WD) WD.stage hi
  have e3 := sumTo_upd D (⟨s', m', dd'⟩ : WD) WD.fuel hi
  refine ⟨_, _, (phi N (Vc j (upd D i ⟨s', m', dd'⟩)) tag' + Ssum j (upd D i ⟨s', m', dd'⟩), f' + 2 * Fsum j (upd D i ⟨s', m', dd'⟩)), hrun, ?_,
    _, W', sl, j, upd D i ⟨s', m', dd'⟩, ix, _, tag', r, f', d0, woken P g g' W' a, st', sm', l0, ids, rfl, by rw [get_map_set _ _ _ _ (by omega), ha]; rfl, hms', hcm.stepW hb.wp hEl hi hc hs' hok hlow hnr hdeaf hrel (out_same hgo), hwg, hmode tag' htag hwk, ?_, hi1, hi2, hN, rfl⟩
  · rw [phi_retag N _ htag]
    simp only [Vc, Ssum, Fsum] at *
    rcases hlt with ⟨h1, h2⟩ | ⟨h1, h2⟩
    · refine Prod.Lex.left _ _ ?_
      have := phi_mono N (v' := sumTo j fun a => cnt (upd D i ⟨s', m', dd'⟩ a)) (v := sumTo j fun a => cnt (D a)) (by omega) tag
      omega
    · have ec : cnt (⟨s', m', dd'⟩ : WD) = cnt (D i) := by simp only [cnt, h1]
      have ev : (sumTo j fun a => cnt (upd D i ⟨s', m', dd'⟩ a)) = sumTo j fun a => cnt (D a) := by omega
      have es' : (sumTo j fun a => (upd D i ⟨s', m', dd'⟩ a).stage) = sumTo j fun a => (D a).stage := by omega
      rw [ev, es']
      refine Prod.Lex.right _ ?_
      omega
  · intro e
    rcases htag with rfl | ⟨_, rfl⟩
    · exact hacq e
    · cases e

omit [Payload] [OldG] [OldE] [Out0] in
theorem low_bk {es : Array Event} (h : ∀ e ∈ es, Bk Wg e) {sz : Nat} (hW : Wg < sz) : ∀ e ∈ es, lowT Wg sz (MemAct.ofEvent e) := by
  intro e he
  rcases h e he with h1 | h1 | ⟨a, wr, rfl, ha⟩
  · exact lowT_none (by rw [ofEvent_loc_mark h1]; rfl)
  · exact lowT_none (by rw [ofEvent_loc_mark h1]; rfl)
  · exact lowT_wg _ _ _ ha hW

set_option maxHeartbeats 1600000 in
/-- A worker behind its work: in its Done, or leaving. -/
theorem stepLib (hb : Bears Wg C n B M WP K) (hN2 : N < 2147483648) (ha : gs[0]? = some a) (hms : MS P ty Wg C n B M WP K ids l0 tag r f0 d0 a W) (hcm : Cm P ty Wg C n B M WP j gs W t D ix ow l0 d0)
    (hwg : WgAt ty Wg W st sm) (hmode : ConcN.Mode j D tag st sm) (hacq : tag = .ret → AcqE Wg j t) (hi1 : ∀ i, OldE.el ≤ i → i < j → ix i ∈ ids) (hi2 : ∀ x ∈ ids, ∃ i, OldE.el ≤ i ∧ i < j ∧ ix i = x) (hN : j + r = N) (hpend : j + pend tag ≤ N)
    {i : Nat} (hEl : OldE.el ≤ i) (hi : i < j) {g : Goroutine} (hg : gs[i + 1]? = some g) (hrun : g.status = .running)
    {v : Value} {s m dd : Nat} (hs : WSit P ty Wg C n NoF NoF 0 (ix i + 1) v s m dd g W) (h23 : s = 7 → m ≤ 23) (hwp : WP (ix i) v (gw W (ow i))) (hhas : s ≤ 6 → Has C (ix i) v W) (hst : (D i).stage = s) (hfu : m ≤ (D i).fuel) (hde : (D i).deaf = dd) :
    ∃ m₁ ops μ', runT P (crowd gs W sl) (i + 1) = (.next m₁, ops) ∧ Lt2 μ' (phi N (Vc j D) tag + Ssum j D, f0 + 2 * Fsum j D) ∧ Iv P ty Wg C n B M WP K N μ' m₁ (t ++ ops) := by
  have hVj := Vc_le j D
  have hdk : Deaf t (i + 1) = dd := by rw [hcm.deafW i hi, hde]
  have hWs : Wg < W.heap.size := Nat.lt_of_lt_of_le hcm.gm.hW hcm.gm.hB
  have lib : ∀ {W' : World} {s' m' dd' : Nat} {g' : Goroutine}, Aside Wg W W' → WgLive ty Wg W' → WSit P ty Wg C n NoF NoF 0 (ix i + 1) v s' m' dd' g' W' → (s' = 7 → m' ≤ 23) → (s' ≤ 6 → Has C (ix i) v W) → WS P ty Wg C n B WP (ix i) (ow i ++ fresh W.heap.size W'.heap.size) s' m' dd' g' W' := by
    intro W' s' m' dd' g' hA hl hs' h23' hh
    have hc : Chg ty Wg C n [] (fun _ => False) W W' := Chg.of_wg hA hl hcm.gm.hCW
    have hro := hc.ro (B := B) (l := ow i) (Cl := fun _ => False) hcm.gm.hB (by simp) (fun b hb' => ⟨by simp, (hcm.gm.own i hi b hb').2, by have := (hcm.gm.own i hi b hb').1; have := hcm.gm.hC; omega, by have := (hcm.gm.own i hi b hb').1; have := hcm.gm.hW; omega⟩) (fun _ => False.elim)
    rw [hA.size, fresh_self, List.append_nil]
    exact .lib hs' h23' (hb.wp _ _ _ _ hro hwp) (fun h => (hc.cells _ id).trans (hh h))
  -- the bookkeeping of the library: at most the group's block turns
  have bookG : ∀ {g' : Goroutine} {W' : World} {es : Array Event} {s' m' dd' : Nat} {st' sm' : Int}, stepG P false g W = .go g' W' es → Aside Wg W W' → WgAt ty Wg W' st' sm' → (∀ e ∈ es, Bk Wg e) →
      (∀ jx e, es[jx]? = some e → (MemAct.ofEvent e).touch? = none ∨ 0 < deafBehind dd (es.extract 0 jx)) → WSit P ty Wg C n NoF NoF 0 (ix i + 1) v s' m' dd' g' W' → (s' = 7 → m' ≤ 23) → deafBehind dd es = dd' → s ≤ 6 →
      (∀ tag', (tag' = tag ∨ (tag = .blk ∧ tag' = .w3)) → (mayWake P g = true → g'.status = .running → tag' ≠ .blk) → ConcN.Mode j (upd D i ⟨s', m', dd'⟩) tag' st' sm') → (tag = .ret → AcqE Wg j (t ++ MemOp.ofEvents (i + 1) g.frame.fn g.frame.place es)) → ((s' < s ∧ cnt ⟨s', m', dd'⟩ ≤ cnt (D i)) ∨ (s' = s ∧ m' + 1 ≤ (D i).fuel)) →
      ∃ m₁ ops μ', runT P (crowd gs W sl) (i + 1) = (.next m₁, ops) ∧ Lt2 μ' (phi N (Vc j D) tag + Ssum j D, f0 + 2 * Fsum j D) ∧ Iv P ty Wg C n B M WP K N μ' m₁ (t ++ ops) := by
    intro g' W' es s' m' dd' st' sm' hgo hAs hwg' hbk hd hs' h23' hdd h6 hmode' hacq' hlt
    exact workerGo hb ha hms hcm hi1 hi2 hN hEl hi hg hgo (Chg.of_wg hAs ⟨_, _, hwg'⟩ hcm.gm.hCW) (lib hAs ⟨_, _, hwg'⟩ hs' h23' (fun _ => hhas (by omega))) (okW_bk hbk) (low_bk hbk (by rw [hAs.size]; exact hWs)) (norel_of_Bk hbk) (by rw [hde]; exact hdd)
      (fun _ => let ⟨r, hr, hrs⟩ := hcm.rel i hEl hi (by omega); ⟨r, hr.book hdk _ _ hbk hd, hrs⟩) hwg' hmode' hacq' (by rw [hst]; exact hlt)
  have book : ∀ {g' : Goroutine} {W' : World} {es : Array Event} {s' m' dd' : Nat} {st' sm' : Int}, stepG P false g W = .go g' W' es → Aside Wg W W' → WgAt ty Wg W' st' sm' → (∀ e ∈ es, Bk Wg e) →
      (∀ jx e, es[jx]? = some e → (MemAct.ofEvent e).touch? = none ∨ 0 < deafBehind dd (es.extract 0 jx)) → WSit P ty Wg C n NoF NoF 0 (ix i + 1) v s' m' dd' g' W' → (s' = 7 → m' ≤ 23) → deafBehind dd es = dd' → s ≤ 6 →
      ConcN.Mode j (upd D i ⟨s', m', dd'⟩) tag st' sm' → (tag = .ret → AcqE Wg j (t ++ MemOp.ofEvents (i + 1) g.frame.fn g.frame.place es)) → ((s' < s ∧ cnt ⟨s', m', dd'⟩ ≤ cnt (D i)) ∨ (s' = s ∧ m' + 1 ≤ (D i).fuel)) →
      ∃ m₁ ops μ', runT P (crowd gs W sl) (i + 1) = (.next m₁, ops) ∧ Lt2 μ' (phi N (Vc j D) tag + Ssum j D, f0 + 2 * Fsum j D) ∧ Iv P ty Wg C n B M WP K N μ' m₁ (t ++ ops) :=
    fun hgo hAs hwg' hbk hd hs' h23' hdd h6 hmode' hacq' hlt => bookG hgo hAs hwg' hbk hd hs' h23' hdd h6 (fun _ ht _ => hmode'.retag ht) hacq' hlt
  have idle : ∀ {g' : Goroutine} {m' : Nat}, stepG P false g W = .go g' W #[] → WSit P ty Wg C n NoF NoF 0 (ix i + 1) v s m' dd g' W → m' + 1 = m → s ≤ 6 → s ≠ 1 →
      ∃ m₁ ops μ', runT P (crowd gs W sl) (i + 1) = (.next m₁, ops) ∧ Lt2 μ' (phi N (Vc j D) tag + Ssum j D, f0 + 2 * Fsum j D) ∧ Iv P ty Wg C n B M WP K N μ' m₁ (t ++ ops) := by
    intro g' m' hgo hs' hm h6 h1
    exact book hgo (.refl Wg W) hwg (by simp) (by simp) hs' (by omega) rfl h6 (by have := hmode.same (i := i) m' dd; rwa [hst] at this) (fun e => absurd e (hmode.not_ret hi (by omega))) (.inr ⟨rfl, by omega⟩)
  have nr : s ≠ 1 → tag ≠ .ret := fun h => hmode.not_ret hi (by omega)
  cases hs with
  | r0 h =>
    rcases Goes.cases h with hstop | ⟨m', rfl, hstep⟩
    · obtain ⟨_, hh, g', hgo, m₂, hk⟩ := hstop W (RW.refl W)
      exact workerGo hb ha hms hcm hi1 hi2 hN hEl hi hg hgo (.refl W) (lib (.refl Wg W) ⟨_, _, hwg⟩ (.k1 hk) (by omega) (fun _ => by simpa using hh)) (okW_not (by intro e he; simp at he; subst he; rfl)) (by intro e he; simp at he; subst he; exact lowT_none rfl) (by intro e he; simp at he; subst he; simp [mk]) (by rw [hde]; rfl)
        (fun _ => ⟨t.size, RelBy.new hdk _ _, hcm.hts⟩) hwg (fun _ ht _ => (hmode.counted hi (by omega) (.inl rfl) _ _).retag ht) (fun e => absurd e (nr (by omega))) (.inl ⟨by omega, by simp [cnt, hst]⟩)
    · obtain ⟨g', W', es, hgo, ⟨hac, hev⟩, hg'⟩ := hstep W (RW.refl W)
      simp only [Nat.add_sub_cancel] at hac
      have hfr : fresh W.heap.size W'.heap.size = [] := by rw [hac.size, fresh_self]
      have hc : Chg ty Wg C n (ow i) (· = ix i) W W' := ⟨Nat.le_of_eq hac.size.symm, hac.tape, hac.os, fun b _ _ hbC _ => hac.block b hbC, fun x hx => hac.cells x hx, hac.pay, fun ⟨a, b, x⟩ => ⟨a, b, x.of_block (hac.block Wg (Ne.symm hcm.gm.hCW))⟩⟩
      have hc0 : Chg ty Wg C n [] (· = ix i) W W' := ⟨Nat.le_of_eq hac.size.symm, hac.tape, hac.os, fun b _ _ hbC _ => hac.block b hbC, fun x hx => hac.cells x hx, hac.pay, fun ⟨a, b, x⟩ => ⟨a, b, x.of_block (hac.block Wg (Ne.symm hcm.gm.hCW))⟩⟩
      have hro := hc0.ro (B := B) (l := ow i) (Cl := fun _ => False) hcm.gm.hB (by simp) (fun b hb' => ⟨by simp, (hcm.gm.own i hi b hb').2, by have := (hcm.gm.own i hi b hb').1; have := hcm.gm.hC; omega, by have := (hcm.gm.own i hi b hb').1; have := hcm.gm.hW; omega⟩) (fun _ => False.elim)
      have hlast : ∀ e ∈ es, ∀ x, (MemAct.ofEvent e).touch? = some x → ShN Wg x.loc ∧ x.kind ≠ .plain ∧ x.kind ≠ .said := by
        intro e he x hx
        rcases ((hev e he).1 0 "").2 x hx with h1 | h1 | h1
        · exact h1
        · exact h1.elim
        · exact h1.1.elim
      refine workerGo hb ha hms hcm hi1 hi2 hN hEl hi hg hgo hc (by rw [hfr, List.append_nil]; exact .lib (.r0 hg') (fun _ => by have := h23 rfl; omega) (hb.wp _ _ _ _ hro hwp) (fun h => by omega)) (fun op hop => ?_) (fun e he x hx => ⟨fun ad ead => ?_, fun _ => (hlast e he x hx).1, by obtain ⟨⟨a', e', _⟩, _⟩ := hlast e he x hx; rw [e']; rfl⟩) (fun e he => (hev e he).2.2.2)
        (by rw [hde]; exact deafBehind_idle (fun e he => ⟨(hev e he).2.1, (hev e he).2.2.1⟩) 0) (fun h => by omega) (hwg.of_block (hac.block Wg (Ne.symm hcm.gm.hCW)))
        (fun _ ht _ => ConcN.Mode.retag (by have := hmode.same (i := i) m' 0; rwa [hst] at this) ht) (fun e => absurd e (nr (by omega))) (.inr ⟨hst.symm, by omega⟩)
      · obtain ⟨e, he, rfl⟩ := Go.Conc.mem_ofEvents hop
        exact ⟨rfl, fun x hx => .inl ⟨.inl (hlast e he x hx).1, (hlast e he x hx).2⟩⟩
      · obtain ⟨⟨a', e', hbW⟩, _⟩ := hlast e he x hx
        rw [ead] at e'
        obtain rfl := Loc.cell.inj e'
        rw [hac.size, hbW]
        exact hWs
  | k1 h =>
    rcases Goes.cases h with hstop | ⟨m', rfl, hstep⟩
    · obtain ⟨_, g', hgo, m₂, hk⟩ := hstop W (RW.refl W)
      exact book hgo (.refl Wg W) hwg (by intro e he; simp at he; subst he; exact .inl rfl) (by intro jx e he; exact .inl (by have := Array.mem_of_getElem? he; simp at this; subst this; rfl)) (.d1 hk) (by omega) rfl (by omega)
        (hmode.counted hi (by omega) (.inr rfl) _ _) (fun e => absurd e (nr (by omega))) (.inl ⟨by omega, by simp [cnt, hst]⟩)
    · obtain ⟨g', W', es, hgo, ⟨rfl, rfl⟩, hg'⟩ := hstep W (RW.refl W)
      exact idle hgo (.k1 hg') rfl (by omega) (by omega)
  | d1 h =>
    rcases Goes.cases h with hstop | ⟨m', rfl, hstep⟩
    · obtain ⟨_, hall⟩ := hstop W (RW.refl W)
      have hc1 : cnt (D i) = 1 := by simp [cnt, hst]
      have hV1 : 1 ≤ Vc j D := by have := le_sumTo (f := fun x => cnt (D x)) hi; simp only [Vc]; omega
      have df2 : ∀ jx e, (#[rd (stA Wg), wr (stA Wg)] : Array Event)[jx]? = some e → (MemAct.ofEvent e).touch? = none ∨ 0 < deafBehind 1 ((#[rd (stA Wg), wr (stA Wg)] : Array Event).extract 0 jx) := by
        intro jx e he
        match jx, he with
        | 0, _ => exact .inr (by simp [deafBehind])
        | 1, _ => exact .inr (by simp [deafBehind, rd])
        | jx + 2, he => simp at he
      have hq0 : ∀ q, cnt (⟨1, q, 1⟩ : WD) = 0 := fun _ => rfl
      have opq : ∀ q, OpenSt j D → OpenSt j (upd D i ⟨1, q, 1⟩) := fun q h a ha => by
        by_cases e : a = i
        · subst e; rw [upd_same]; simp
        · rw [upd_ne D _ e]; exact h a ha
      cases hmode with
      | opn h1 h2 h3 =>
        obtain ⟨u, hu⟩ : ∃ u, Vc j D + pend tag = u + 1 := ⟨Vc j D + pend tag - 1, by omega⟩
        rw [hu] at hwg
        have hw1 : WgAt ty Wg W (((u : Nat) + 1) * KK + ((0 : Nat) : Int)) 0 := by simpa using hwg
        obtain ⟨g', hgo, _, hq⟩ := hall u 0 (by omega) (by omega) hw1
        obtain ⟨q, hq⟩ := hq (by omega)
        have hv' : Vc j (upd D i ⟨1, q, 1⟩) + pend tag = u := by have := Vc_upd D (⟨1, q, 1⟩ : WD) hi; have := hq0 q; omega
        refine book hgo (aside_setCell W (stA Wg) _) (hwg.setSt _) bk_rw df2 (.quit hq) (by omega) rfl (by omega) ?_ (fun e => absurd e (nr (by omega))) (.inl ⟨by omega, by simp [cnt]⟩)
        have e : ((u : Nat) : Int) * KK + ((0 : Nat) : Int) = ((Vc j (upd D i ⟨1, q, 1⟩) + pend tag : Nat) : Int) * KK := by rw [hv']; simp
        rw [e]
        exact .opn h1 (opq q h2) (fun vs ev => by have := h3 vs ev; omega)
      | reg h1 h2 h3 =>
        obtain ⟨u, hu⟩ : ∃ u, Vc j D = u + 1 := ⟨Vc j D - 1, by omega⟩
        rw [hu] at hwg
        have hw1 : WgAt ty Wg W (((u : Nat) + 1) * KK + ((1 : Nat) : Int)) 0 := by simpa using hwg
        obtain ⟨g', hgo, hl, hq⟩ := hall u 1 (by omega) (by omega) hw1
        by_cases hv0 : u = 0
        · subst hv0
          obtain ⟨m₂, hk⟩ := hl ⟨rfl, rfl⟩
          refine book hgo (aside_setCell W (stA Wg) _) (hwg.setSt _) bk_rw df2 (.d2 hk) (by omega) rfl (by omega) ?_ (fun e => absurd e (nr (by omega))) (.inl ⟨by omega, by simp [cnt]⟩)
          have hoth : ∀ a, a < j → a ≠ i → (D a).stage = 1 := fun a ha e => by
            have c0 := others_uncounted hi hu hc1 a ha e
            have := h2 a ha
            simp only [cnt] at c0
            split at c0 <;> omega
          have := ConcN.Mode.last (j := j) (D := upd D i ⟨4, m₂, 1⟩) (tag := tag) i h1 hi (by rw [upd_same]; simp) (fun a ha e => by rw [upd_ne D _ e]; exact hoth a ha e)
          rw [upd_same] at this
          simpa using this
        · obtain ⟨q, hq⟩ := hq (by omega)
          have hv' : Vc j (upd D i ⟨1, q, 1⟩) = u := by have := Vc_upd D (⟨1, q, 1⟩ : WD) hi; have := hq0 q; omega
          refine book hgo (aside_setCell W (stA Wg) _) (hwg.setSt _) bk_rw df2 (.quit hq) (by omega) rfl (by omega) ?_ (fun e => absurd e (nr (by omega))) (.inl ⟨by omega, by simp [cnt]⟩)
          have e : ((u : Nat) : Int) * KK + ((1 : Nat) : Int) = ((Vc j (upd D i ⟨1, q, 1⟩) : Nat) : Int) * KK + 1 := by rw [hv']; simp
          rw [e]
          exact .reg h1 (opq q h2) (by omega)
      | last L _ h2 h3 h4 =>
        by_cases e : i = L
        · subst e; omega
        · have := h4 i hi e; omega
      | sema h2 => have := h2 i hi; omega
      | fin _ h2 => have := h2 i hi; omega
    · obtain ⟨g', W', es, hgo, ⟨rfl, rfl⟩, hg'⟩ := hstep W (RW.refl W)
      exact idle hgo (.d1 hg') rfl (by omega) (by omega)
  | d2 h =>
    rcases Goes.cases h with hstop | ⟨m', rfl, hstep⟩
    · obtain ⟨_, hx⟩ := hstop W (RW.refl W)
      obtain ⟨hW3, hoth, rfl, rfl⟩ := hmode.isLast hi (by omega)
      simp only [hst] at hwg
      obtain ⟨g', hgo, m₂, hk⟩ := hx (by simpa using hwg)
      refine book hgo (.refl Wg W) hwg bk_rd (by intro jx e he; match jx, he with | 0, _ => exact .inr (by simp [deafBehind]) | jx + 1, he => simp at he) (.d3 hk) (by omega) rfl (by omega) ?_ (fun e => absurd e (nr (by omega))) (.inl ⟨by omega, by simp [cnt]⟩)
      have := ConcN.Mode.last (j := j) (D := upd D i ⟨3, m₂, 1⟩) (tag := tag) i hW3 hi (by rw [upd_same]; simp) (fun a ha e => by rw [upd_ne D _ e]; exact hoth a ha e)
      rw [upd_same] at this
      simpa using this
    · obtain ⟨g', W', es, hgo, ⟨rfl, rfl⟩, hg'⟩ := hstep W (RW.refl W)
      exact idle hgo (.d2 hg') rfl (by omega) (by omega)
  | d3 h =>
    rcases Goes.cases h with hstop | ⟨m', rfl, hstep⟩
    · obtain ⟨_, hx⟩ := hstop W (RW.refl W)
      obtain ⟨hW3, hoth, rfl, rfl⟩ := hmode.isLast hi (by omega)
      simp only [hst] at hwg
      obtain ⟨g', hgo, m₂, hk⟩ := hx (by simpa using hwg)
      refine book hgo (aside_setCell W (stA Wg) _) (hwg.setSt 0) (by intro e he; simp at he; subst he; exact bk_cell _ _ rfl) (by intro jx e he; match jx, he with | 0, _ => exact .inr (by simp [deafBehind]) | jx + 1, he => simp at he) (.d4 hk) (by omega) rfl (by omega) ?_ (fun e => absurd e (nr (by omega))) (.inl ⟨by omega, by simp [cnt]⟩)
      have := ConcN.Mode.last (j := j) (D := upd D i ⟨2, m₂, 1⟩) (tag := tag) i hW3 hi (by rw [upd_same]; simp) (fun a ha e => by rw [upd_ne D _ e]; exact hoth a ha e)
      rw [upd_same] at this
      simpa using this
    · obtain ⟨g', W', es, hgo, ⟨rfl, rfl⟩, hg'⟩ := hstep W (RW.refl W)
      exact idle hgo (.d3 hg') rfl (by omega) (by omega)
  | d4 h =>
    rcases Goes.cases h with hstop | ⟨m', rfl, hstep⟩
    · obtain ⟨_, hmw, hx⟩ := hstop W (RW.refl W)
      obtain ⟨hW3, hoth, rfl, rfl⟩ := hmode.isLast hi (by omega)
      simp only [hst] at hwg
      obtain ⟨g', hgo, q, hq⟩ := hx (by simpa using hwg)
      have hrun' : g'.status = .running := by
        cases q with
        | zero => exact absurd hq.2 (by decide)
        | succ q => exact hq.elim (fun x => absurd x.2 (by decide)) (fun x => x.1)
      refine bookG hgo (aside_setCell W (smA Wg) _) (hwg.setSm 1) (es := semEvents (smA Wg)) bk_sem ?_ (.quit hq) (by omega) (by simp [deafBehind, semEvents]) (by omega) ?_ (fun e => absurd e (nr (by omega))) (.inl ⟨by omega, by simp [cnt]⟩)
      · intro jx e he
        match jx, he with
        | 0, he => simp [semEvents] at he; subst he; exact .inl rfl
        | 1, _ => exact .inr (by simp [deafBehind, semEvents])
        | 2, _ => exact .inr (by simp [deafBehind, semEvents])
        | 3, he => simp [semEvents] at he; subst he; exact .inl rfl
        | jx + 4, he => simp [semEvents] at he
      · intro tag' ht hw
        have hnb := hw hmw hrun'
        have e3 : tag' = .w3 := by
          rcases ht with rfl | ⟨_, rfl⟩
          · cases tag' <;> first | rfl | exact hW3.elim | exact absurd rfl hnb
          · rfl
        subst e3
        simp only [if_true]
        exact .sema fun a ha => by
          by_cases e : a = i
          · subst e; rw [upd_same]
          · rw [upd_ne D _ e]; exact hoth a ha e
    · obtain ⟨g', W', es, hgo, ⟨rfl, rfl⟩, hg'⟩ := hstep W (RW.refl W)
      exact idle hgo (.d4 hg') rfl (by omega) (by omega)
  | quit h =>
    cases m with
    | zero => rw [h.1] at hrun; cases hrun
    | succ q =>
      rcases h with ⟨hf, _⟩ | ⟨_, g', es, hmute, hstep, hq⟩
      · rw [hf] at hrun; cases hrun
      · have hbk : ∀ e ∈ es, Bk Wg e := fun e he => bk_of_mute (hmute e he)
        have hno : ∀ jx e, es[jx]? = some e → (MemAct.ofEvent e).touch? = none ∨ 0 < deafBehind dd (es.extract 0 jx) := fun jx e he => .inl (touch_mute (hmute e (Array.mem_of_getElem? he)))
        refine book (hstep W) (.refl Wg W) hwg hbk hno (.quit hq) (by omega) rfl (by omega) (by have := hmode.same (i := i) q (deafBehind dd es); rwa [hst] at this) (fun e => (hacq e).app fun i' r _ hi' hr => ?_) (.inr ⟨rfl, by omega⟩)
        by_cases e' : i' = i
        · subst e'; exact hr.book hdk _ _ hbk hno
        · exact hr.appOther g_of_ofEvents (by omega)
end

end Go.Gh

/-
  Workers that make memory, and their starter: a step of the worker while it works; a step of the starter's.
-/
namespace Go.Gh
open Go.Conc Go.ConcN
open Go.ConcR (KK WgAt stA smA rd wr mk Payload DC0 g_of_ofEvents Bk ofEvent_loc_mark ofEvent_cell ofEvent_mk)
variable [Payload] [OldG] [OldE] [Out0]

section
variable {P : Program} {ty : TypeId} {Wg C n B : Nat} {M : Nat → Prop} {WP : Nat → Value → World → Prop} {K : List Nat → Goroutine → World → Prop} {N : Nat}
  {gs : Array Goroutine} {W W' : World} {sl : Option (Nat × Nat)} {j : Nat} {D : Nat → WD} {ix : Nat → Nat} {ow : Nat → List Nat} {tag : CTag} {r f0 d0 : Nat} {a : Goroutine} {t : Trace} {st sm : Int} {l0 ids : List Nat}

omit [Payload] [OldG] [OldE] [Out0] in
theorem touch_plain {b : Addr} {wr : Bool} {x : Touch} (hx : (MemAct.ofEvent ⟨.cell b, wr, false⟩).touch? = some x) : x.loc = .cell b ∧ x.write = wr := by
  rw [ofEvent_cell] at hx
  simp only [MemAct.touch?, Option.some.injEq] at hx
  subst hx
  exact ⟨rfl, rfl⟩

theorem stepW (hb : Bears Wg C n B M WP K) (hN2 : N < 2147483648) (ha : gs[0]? = some a) (hms : MS P ty Wg C n B M WP K ids l0 tag r f0 d0 a W) (hcm : Cm P ty Wg C n B M WP j gs W t D ix ow l0 d0)
    (hwg : WgAt ty Wg W st sm) (hmode : ConcN.Mode j D tag st sm) (hacq : tag = .ret → AcqE Wg j t) (hi1 : ∀ i, OldE.el ≤ i → i < j → ix i ∈ ids) (hi2 : ∀ x ∈ ids, ∃ i, OldE.el ≤ i ∧ i < j ∧ ix i = x) (hN : j + r = N) (hpend : j + pend tag ≤ N)
    {i : Nat} (hEl : OldE.el ≤ i) (hi : i < j) {g : Goroutine} (hg : gs[i + 1]? = some g) (hrun : g.status = .running) :
    ∃ m₁ ops μ', runT P (crowd gs W sl) (i + 1) = (.next m₁, ops) ∧ Lt2 μ' (phi N (Vc j D) tag + Ssum j D, f0 + 2 * Fsum j D) ∧ Iv P ty Wg C n B M WP K N μ' m₁ (t ++ ops) := by
  obtain ⟨g₁, hg₁, hs⟩ := hcm.wk i hEl hi
  obtain rfl : g = g₁ := by rw [hg] at hg₁; exact Option.some.inj hg₁
  generalize hst : (D i).stage = s at hs
  generalize hfu : (D i).fuel = m at hs
  generalize hde : (D i).deaf = dd at hs
  cases hs with
  | lib h1 h2 h3 h4 => exact stepLib hb hN2 ha hms hcm hwg hmode hacq hi1 hi2 hN hpend hEl hi hg hrun h1 h2 h3 h4 hst (by omega) hde
  | comp h =>
    rename_i m
    have hro := ro_refl (Wg := Wg) (C := C) (n := n) (B := B) W (ow i) (· = ix i)
    rcases Goes.cases h with hstop | ⟨m', rfl, hstep⟩
    · obtain ⟨_, v, hwp, hhas, hG⟩ := hstop _ hro
      exact stepLib hb hN2 ha hms hcm hwg hmode hacq hi1 hi2 hN hpend hEl hi hg hrun (.r0 (hG W ⟨_, _, hwg⟩ hhas)) (fun _ => Nat.le_refl _) hwp (fun h => by omega) hst (by omega) hde
    · obtain ⟨g', w', es, hgo, hD, hg'⟩ := hstep _ hro
      obtain ⟨hgo', hout⟩ := stepG_go_out P (book W.heap.size (ow i)) (w := W) hgo
      have hWs : Wg < W.heap.size := Nat.lt_of_lt_of_le hcm.gm.hW hcm.gm.hB
      have hwgi : Wg ∉ ow i := fun hx => by have := (hcm.gm.own i hi _ hx).1; have := hcm.gm.hW; omega
      have hc : Chg ty Wg C n (ow i) (· = ix i) W (w'.out W.output) := hD.chg rfl hwgi hWs hcm.gm.hCW
      have hro' : Ro Wg C n B (· = ix i) w' (gw (w'.out W.output) (ow i ++ fresh W.heap.size (w'.out W.output).heap.size)) := ro_own rfl hout
      have tr : ∀ a b c, Ro Wg C n B (· = ix i) a b → Ro Wg C n B (· = ix i) b c → Ro Wg C n B (· = ix i) a c := fun _ _ _ a b => Ro.trans a b
      have hwg' : WgAt ty Wg (w'.out W.output) st sm := by
        have := hD.frame Wg hWs (by rw [mine_gw]; exact hwgi) (Ne.symm hcm.gm.hCW)
        exact hwg.of_block this
      have hdf : deafBehind (D i).deaf es = 0 := by
        rw [hde]
        exact deafBehind_idle (fun e he => by obtain ⟨b, wr, rfl, _, _⟩ := hD.evs e he; exact ⟨by simp, by simp⟩) 0
      refine workerGo hb ha hms hcm hi1 hi2 hN hEl hi hg hgo' hc (.comp (m := m') (Goes.rely tr hg' hro')) (fun op hop => ?_) (fun e he => ?_) (fun e he => ?_) hdf (fun h => by omega) hwg'
        (fun _ ht _ => ConcN.Mode.retag (by have := hmode.same (i := i) (m' + 24) 0; rwa [hst] at this) ht) (fun e => absurd e (hmode.not_ret hi (by omega))) (.inr ⟨hst.symm, by omega⟩)
      · obtain ⟨e, he, rfl⟩ := Go.Conc.mem_ofEvents hop
        obtain ⟨b, wr, rfl, hlt, hcase⟩ := hD.evs e he
        refine ⟨rfl, fun x hx => ?_⟩
        obtain ⟨hl, hw⟩ := touch_plain hx
        rw [hl, hw]
        rcases hcase with h1 | h1 | ⟨i', rfl, h1⟩ | ⟨h1, h2, h3, h4, h5⟩
        · rw [mine_gw] at h1
          exact .inr (.inl ⟨by omega, by omega, b, rfl, .inl (by rw [Nat.add_sub_cancel, upd_same]; exact List.mem_append_left _ h1)⟩)
        · exact .inr (.inl ⟨by omega, by omega, b, rfl, .inl (by rw [Nat.add_sub_cancel, upd_same]; exact List.mem_append_right _ (mem_fresh.2 ⟨h1, hlt⟩))⟩)
        · exact .inr (.inl ⟨by omega, by omega, _, rfl, .inr (by rw [Nat.add_sub_cancel, h1])⟩)
        · exact .inr (.inr ⟨⟨by omega, b, rfl, h1, h2, h3, h5⟩, h4⟩)
      · obtain ⟨b, wr, rfl, hlt, _⟩ := hD.evs e he
        exact lowT_cell _ _ hlt
      · obtain ⟨b, wr, rfl, _, _⟩ := hD.evs e he
        simp

/-- Whatever step of the starter's but a go statement. -/
theorem mainGo (hb : Bears Wg C n B M WP K) (ha : gs[0]? = some a) (hcm : Cm P ty Wg C n B M WP j gs W t D ix ow l0 d0) (hi1 : ∀ i, OldE.el ≤ i → i < j → ix i ∈ ids) (hi2 : ∀ x ∈ ids, ∃ i, OldE.el ≤ i ∧ i < j ∧ ix i = x) (hN : j + r = N)
    {a' : Goroutine} {es : Array Event} {tag' : CTag} {f' dd : Nat} {st' sm' : Int} (hgo : stepG P true a W = .go a' W' es) (hc : Chg ty Wg C n l0 (fun i => ¬ M i) W W')
    (hok : ∀ op ∈ MemOp.ofEvents 0 a.frame.fn a.frame.place es, Ok0 (ShO Wg) (OwnF C j ix ow) (RdF Wg C B) j op) (hlow : ∀ e ∈ es, lowT Wg W'.heap.size (MemAct.ofEvent e)) (hnr : ∀ e ∈ es, e.loc ≠ .mark (.release (stA Wg)))
    (hdd : deafBehind d0 es = dd) (hms' : MS P ty Wg C n B M WP K ids (l0 ++ fresh W.heap.size W'.heap.size) tag' r f' dd a' W') (hwg : WgAt ty Wg W' st' sm') (hmode : ConcN.Mode j D tag' st' sm')
    (hacq : tag' = .ret → AcqE Wg j (t ++ MemOp.ofEvents 0 a.frame.fn a.frame.place es))
    (hlt : phi N (Vc j D) tag' < phi N (Vc j D) tag ∨ (phi N (Vc j D) tag' = phi N (Vc j D) tag ∧ f' < f0)) :
    ∃ m₁ ops μ', runT P (crowd gs W sl) 0 = (.next m₁, ops) ∧ Lt2 μ' (phi N (Vc j D) tag + Ssum j D, f0 + 2 * Fsum j D) ∧ Iv P ty Wg C n B M WP K N μ' m₁ (t ++ ops) := by
  subst hdd
  have hrun := runT_crowd_go (P := P) (sl := sl) (i := 0) ha (by simpa using hgo)
  refine ⟨_, _, (phi N (Vc j D) tag' + Ssum j D, f' + 2 * Fsum j D), hrun, ?_, _, W', sl, j, D, ix, ow, tag', r, f', _, a', st', sm', _, ids, rfl, get_map_set_same _ _ _ (by rw [hcm.size]; omega), hms', hcm.step0 hb.wp hc hok hlow hnr (out_same hgo), hwg, hmode, hacq, hi1, hi2, hN, rfl⟩
  rcases hlt with h | ⟨h1, h2⟩
  · exact Prod.Lex.left _ _ (by omega)
  · rw [h1]; exact Prod.Lex.right _ (by omega)

/-- A step of the starter's own work. -/
theorem mainComp (hb : Bears Wg C n B M WP K) (ha : gs[0]? = some a) (hcm : Cm P ty Wg C n B M WP j gs W t D ix ow l0 0) (hwg : WgAt ty Wg W st sm) (hmode : ConcN.Mode j D tag st sm) (hi1 : ∀ i, OldE.el ≤ i → i < j → ix i ∈ ids) (hi2 : ∀ x ∈ ids, ∃ i, OldE.el ≤ i ∧ i < j ∧ ix i = x) (hN : j + r = N) (hne : tag ≠ .ret)
    {Stop : Goroutine → World → Prop} {m' : Nat} (hstep : ∀ w₁, Ro Wg C n B (fun i => ¬ M i) (gw W l0) w₁ → ∃ g' w' es, stepG P true a w₁ = .go g' w' es ∧ Dg Wg C n B (fun i => ¬ M i) w₁ w' es ∧ Goes P true (Ro Wg C n B (fun i => ¬ M i)) (Dg Wg C n B (fun i => ¬ M i)) Stop m' g' w')
    (hms' : ∀ {g' : Goroutine} {W' : World} {l : List Nat}, Goes P true (Ro Wg C n B (fun i => ¬ M i)) (Dg Wg C n B (fun i => ¬ M i)) Stop m' g' (gw W' l) → MS P ty Wg C n B M WP K ids l tag r m' 0 g' W') (hf : m' < f0) :
    ∃ m₁ ops μ', runT P (crowd gs W sl) 0 = (.next m₁, ops) ∧ Lt2 μ' (phi N (Vc j D) tag + Ssum j D, f0 + 2 * Fsum j D) ∧ Iv P ty Wg C n B M WP K N μ' m₁ (t ++ ops) := by
  obtain ⟨g', w', es, hgo, hD, hg'⟩ := hstep _ (ro_refl W l0 _)
  obtain ⟨hgo', hout⟩ := stepG_go_out P (book W.heap.size l0) (w := W) hgo
  have hWs : Wg < W.heap.size := Nat.lt_of_lt_of_le hcm.gm.hW hcm.gm.hB
  have hwgi : Wg ∉ l0 := fun hx => by have := (hcm.gm.own0 _ hx).1; have := hcm.gm.hW; omega
  have hc : Chg ty Wg C n l0 (fun i => ¬ M i) W (w'.out W.output) := hD.chg rfl hwgi hWs hcm.gm.hCW
  have hro' : Ro Wg C n B (fun i => ¬ M i) w' (gw (w'.out W.output) (l0 ++ fresh W.heap.size (w'.out W.output).heap.size)) := ro_own rfl hout
  have tr : ∀ a b c, Ro Wg C n B (fun i => ¬ M i) a b → Ro Wg C n B (fun i => ¬ M i) b c → Ro Wg C n B (fun i => ¬ M i) a c := fun _ _ _ a b => Ro.trans a b
  have hwg' : WgAt ty Wg (w'.out W.output) st sm := by
    have := hD.frame Wg hWs (by rw [mine_gw]; exact hwgi) (Ne.symm hcm.gm.hCW)
    exact hwg.of_block this
  refine mainGo hb ha hcm hi1 hi2 hN hgo' hc (fun op hop => ?_) (fun e he => ?_) (fun e he => ?_) (deafBehind_idle (fun e he => ?_) 0) (hms' (Goes.rely tr hg' hro')) hwg' hmode (fun e => absurd e hne) (.inr ⟨rfl, hf⟩)
  · obtain ⟨e, he, rfl⟩ := Go.Conc.mem_ofEvents hop
    obtain ⟨b, wr, rfl, hlt, hcase⟩ := hD.evs e he
    refine ⟨rfl, fun x hx => .inr ?_⟩
    obtain ⟨hl, hw⟩ := touch_plain hx
    rw [hl, hw]
    have hB := hcm.gm.hB
    have hWB := hcm.gm.hW
    have hCB := hcm.gm.hC
    rcases hcase with h1 | h1 | ⟨i', rfl, h1⟩ | ⟨h1, h2, h3, h4, h5⟩
    · rw [mine_gw] at h1
      have hb0 := hcm.gm.own0 _ h1
      refine ⟨notShO (by omega) (fun ho => by have := hcm.gm.old _ ho; omega), fun k k1 kj ⟨_, _, b', e', hz⟩ => ?_, fun _ k k1 kj ⟨_, b', e', z1, z2, z3, _⟩ => ?_⟩
      · obtain rfl := Loc.cell.inj e'
        rcases hz with hz | hz
        · exact hcm.gm.dis0 (k - 1) _ (by omega) hz h1
        · rw [hz] at hb0; dsimp only at hb0; omega
      · obtain rfl := Loc.cell.inj e'; omega
    · have h1' : W.heap.size ≤ b.block := h1
      refine ⟨notShO (by omega) (fun ho => by have := hcm.gm.old _ ho; omega), fun k k1 kj ⟨_, _, b', e', hz⟩ => ?_, fun _ k k1 kj ⟨_, b', e', z1, z2, z3, _⟩ => ?_⟩
      · obtain rfl := Loc.cell.inj e'
        have : W.heap.size ≤ b.block := h1
        rcases hz with hz | hz
        · have := hcm.gm.own (k - 1) (by omega) _ hz; omega
        · rw [hz] at this; dsimp only at this; omega
      · obtain rfl := Loc.cell.inj e'; have : W.heap.size ≤ b.block := h1; omega
    · refine ⟨notShO hcm.gm.hCW (fun ho => (hcm.gm.old _ ho).2 rfl), fun k k1 kj ⟨_, _, b', e', hz⟩ => ?_, fun _ k k1 kj ⟨_, b', e', z1, z2, z3, _⟩ => ?_⟩
      · obtain rfl := Loc.cell.inj e'
        rcases hz with hz | hz
        · have := hcm.gm.own (k - 1) (by omega) _ hz; dsimp only at this; omega
        · have e2 : i' = ix (k - 1) := by injection hz
          exact h1 (e2 ▸ hcm.gm.ixM (k - 1) (by omega) (by omega))
      · obtain rfl := Loc.cell.inj e'; exact z3 rfl
    · refine ⟨notShO h2 h5, fun k k1 kj ⟨_, _, b', e', hz⟩ => ?_, fun hwr => by rw [h4] at hwr; cases hwr⟩
      · obtain rfl := Loc.cell.inj e'
        rcases hz with hz | hz
        · have := hcm.gm.own (k - 1) (by omega) _ hz; omega
        · rw [hz] at h3; exact h3 rfl
  · obtain ⟨b, wr, rfl, hlt, _⟩ := hD.evs e he
    exact lowT_cell _ _ hlt
  · obtain ⟨b, wr, rfl, _, _⟩ := hD.evs e he
    simp
  · obtain ⟨b, wr, rfl, _, _⟩ := hD.evs e he
    exact ⟨by simp, by simp⟩
end

end Go.Gh

/-
  Workers that make memory, and their starter: a step of the starter's keeps the invariant and lowers the measure, as long as it has not come behind its Wait.
-/
namespace Go.Gh
open Go.Conc Go.ConcN
open Go.ConcR (KK WgAt stA smA rd wr mk Payload DC0 g_of_ofEvents Bk ofEvent_loc_mark ofEvent_cell ofEvent_mk)
variable [Payload] [OldG] [OldE] [Out0]

section
variable {P : Program} {ty : TypeId} {Wg C n B : Nat} {M : Nat → Prop} {WP : Nat → Value → World → Prop} {K : List Nat → Goroutine → World → Prop} {N : Nat}
  {gs : Array Goroutine} {W W' : World} {sl : Option (Nat × Nat)} {j : Nat} {D : Nat → WD} {ix : Nat → Nat} {ow : Nat → List Nat} {tag tag' : CTag} {r f0 f' d0 dd : Nat} {a a' : Goroutine} {t : Trace} {st sm st' sm' : Int} {l0 ids : List Nat} {es : Array Event}

/-- What a step of the machine has come to. -/
def Went (P : Program) (ty : TypeId) (Wg C n B : Nat) (M : Nat → Prop) (WP : Nat → Value → World → Prop) (K : List Nat → Goroutine → World → Prop) (N : Nat) (gs : Array Goroutine) (W : World) (sl : Option (Nat × Nat)) (t : Trace) (μ : Nat × Nat) : Prop :=
  ∃ m₁ ops μ', runT P (crowd gs W sl) 0 = (.next m₁, ops) ∧ Lt2 μ' μ ∧ Iv P ty Wg C n B M WP K N μ' m₁ (t ++ ops)
theorem Went.mono {μ μ' : Nat × Nat} (h : Went P ty Wg C n B M WP K N gs W sl t μ) (hl : Lt2 μ μ') : Went P ty Wg C n B M WP K N gs W sl t μ' :=
  let ⟨m₁, ops, ν, h1, h2, h3⟩ := h; ⟨m₁, ops, ν, h1, lt2_trans h2 hl, h3⟩

/-- What is given at every step of the starter's. -/
structure Giv (P : Program) (ty : TypeId) (Wg C n B : Nat) (M : Nat → Prop) (WP : Nat → Value → World → Prop) (K : List Nat → Goroutine → World → Prop) (N j r : Nat) (gs : Array Goroutine) (W : World) (t : Trace) (D : Nat → WD) (ix : Nat → Nat) (ow : Nat → List Nat) (l0 ids : List Nat) (d0 : Nat) (a : Goroutine) (st sm : Int) : Prop where
  hb : Bears Wg C n B M WP K
  hN2 : N < 2147483648
  ha : gs[0]? = some a
  hcm : Cm P ty Wg C n B M WP j gs W t D ix ow l0 d0
  hwg : WgAt ty Wg W st sm
  hi1 : ∀ i, OldE.el ≤ i → i < j → ix i ∈ ids
  hi2 : ∀ x ∈ ids, ∃ i, OldE.el ≤ i ∧ i < j ∧ ix i = x
  hN : j + r = N

theorem Giv.hWs (h : Giv P ty Wg C n B M WP K N j r gs W t D ix ow l0 ids d0 a st sm) : Wg < W.heap.size := Nat.lt_of_lt_of_le h.hcm.gm.hW h.hcm.gm.hB

theorem Giv.ro (h : Giv P ty Wg C n B M WP K N j r gs W t D ix ow l0 ids d0 a st sm) (hAs : Aside Wg W W') (hl : WgLive ty Wg W') : Ro Wg C n B (fun i => ¬ M i) (gw W l0) (gw W' l0) :=
  (Chg.of_wg (n := n) (lo := []) (Cm := fun _ => False) hAs hl h.hcm.gm.hCW).ro h.hcm.gm.hB (by simp) (fun b hb' => ⟨by simp, (h.hcm.gm.own0 b hb').2, by have := (h.hcm.gm.own0 b hb').1; have := h.hcm.gm.hC; omega, by have := (h.hcm.gm.own0 b hb').1; have := h.hcm.gm.hW; omega⟩) (fun _ _ => id)

/-- A step of the library's bookkeeping. -/
theorem Giv.bkp (h : Giv P ty Wg C n B M WP K N j r gs W t D ix ow l0 ids d0 a st sm) (hgo : stepG P true a W = .go a' W' es) (hAs : Aside Wg W W') (hwg' : WgAt ty Wg W' st' sm') (hbk : ∀ e ∈ es, Bk Wg e) (hdd : deafBehind d0 es = dd)
    (hms' : MS P ty Wg C n B M WP K ids l0 tag' r f' dd a' W') (hmode' : ConcN.Mode j D tag' st' sm') (hne : tag' ≠ .ret) (hlt : phi N (Vc j D) tag' < phi N (Vc j D) tag ∨ (phi N (Vc j D) tag' = phi N (Vc j D) tag ∧ f' < f0)) :
    Went P ty Wg C n B M WP K N gs W sl t (phi N (Vc j D) tag + Ssum j D, f0 + 2 * Fsum j D) :=
  mainGo h.hb h.ha h.hcm h.hi1 h.hi2 h.hN hgo (Chg.of_wg hAs ⟨_, _, hwg'⟩ h.hcm.gm.hCW) (ok0_bk hbk) (low_bk hbk (by rw [hAs.size]; exact h.hWs)) (norel_of_Bk hbk) hdd
    (by rw [hAs.size, fresh_self, List.append_nil]; exact hms') hwg' hmode' (fun e => absurd e hne) hlt

/-- A step that says one word: of the group's semaphore, or one that touches nothing. -/
theorem Giv.say (h : Giv P ty Wg C n B M WP K N j r gs W t D ix ow l0 ids d0 a st sm) {e : Event} (hgo : stepG P true a W = .go a' W #[e]) (ht : ∀ x, (MemAct.ofEvent e).touch? = some x → ∃ ad : Addr, x.loc = .cell ad ∧ ad.block = Wg ∧ x.kind = .said)
    (hne : e.loc ≠ .mark .disable ∧ e.loc ≠ .mark .enable ∧ e.loc ≠ .mark (.release (stA Wg)))
    (hms' : MS P ty Wg C n B M WP K ids l0 tag' r f' d0 a' W) (hmode' : ConcN.Mode j D tag' st sm) (hacq : tag' = .ret → AcqE Wg j (t ++ MemOp.ofEvents 0 a.frame.fn a.frame.place #[e]))
    (hlt : phi N (Vc j D) tag' < phi N (Vc j D) tag ∨ (phi N (Vc j D) tag' = phi N (Vc j D) tag ∧ f' < f0)) :
    Went P ty Wg C n B M WP K N gs W sl t (phi N (Vc j D) tag + Ssum j D, f0 + 2 * Fsum j D) := by
  refine mainGo h.hb h.ha h.hcm h.hi1 h.hi2 h.hN hgo (.refl W) (fun op hop => ?_) (fun e' he' => ?_) (fun e' he' => ?_) (deafBehind_idle (fun e' he' => ?_) d0)
    (by rw [fresh_self, List.append_nil]; exact hms') h.hwg hmode' hacq hlt
  · obtain ⟨e', he', rfl⟩ := Go.Conc.mem_ofEvents hop
    obtain rfl : e' = e := by simpa using he'
    refine ⟨rfl, fun x hx => .inl ?_⟩
    obtain ⟨ad, h1, h2, h3⟩ := ht x hx
    exact ⟨.inl ⟨ad, h1, h2⟩, by rw [h3]; simp⟩
  · obtain rfl : e' = e := by simpa using he'
    intro x hx
    obtain ⟨ad, h1, h2, h3⟩ := ht x hx
    refine ⟨fun ad' e1 => ?_, fun e1 => (by rw [h3] at e1; cases e1), by rw [h1]; rfl⟩
    rw [h1] at e1
    obtain rfl := Loc.cell.inj e1
    rw [h2]
    exact h.hWs
  · obtain rfl : e' = e := by simpa using he'
    exact hne.2.2
  · obtain rfl : e' = e := by simpa using he'
    exact ⟨hne.1, hne.2.1⟩

/-- An idle step. -/
theorem Giv.idle (h : Giv P ty Wg C n B M WP K N j r gs W t D ix ow l0 ids d0 a st sm) (hgo : stepG P true a W = .go a' W #[]) (hms' : MS P ty Wg C n B M WP K ids l0 tag r f' d0 a' W) (hmode : ConcN.Mode j D tag st sm)
    (hacq : tag = .ret → AcqE Wg j t) (hf : f' < f0) : Went P ty Wg C n B M WP K N gs W sl t (phi N (Vc j D) tag + Ssum j D, f0 + 2 * Fsum j D) := by
  refine mainGo h.hb h.ha h.hcm h.hi1 h.hi2 h.hN hgo (.refl W) (fun op hop => ?_) (by simp) (by simp) rfl (by rw [fresh_self, List.append_nil]; exact hms') h.hwg hmode (fun e => (hacq e).app fun i r _ _ hr => hr.appOther g_of_ofEvents (by omega)) (.inr ⟨rfl, hf⟩)
  obtain ⟨e', he', rfl⟩ := Go.Conc.mem_ofEvents hop
  simp at he'

theorem Giv.kd1 {m mm : Nat} {gT : Goroutine} (h : Giv P ty Wg C n B M WP K N j (r + 1) gs W t D ix ow l0 ids 0 a st sm) (hmode : ConcN.Mode j D (.sp (r + 1) 6) st sm) (hG : Goes P true (RL ty Wg) DC0 (AKd P ty Wg gT) m a W)
    (h0 : Goes P true (Ro Wg C n B (fun i => ¬ M i)) (Dg Wg C n B (fun i => ¬ M i)) (AtGo P ty Wg C n B M WP (Sp P ty Wg C n B M WP K r) ids) mm gT (gw W l0)) :
    Went P ty Wg C n B M WP K N gs W sl t (phi N (Vc j D) (.sp (r + 1) 6) + Ssum j D, m + 2 * Fsum j D) := by
  rcases Goes.cases hG with hstop | ⟨m', rfl, hstep⟩
  · obtain ⟨_, a', hgo, m₂, hk⟩ := hstop W (rl_refl ty Wg W)
    exact h.bkp hgo (.refl Wg W) h.hwg bk_dis rfl (.a1 hk h0) (hmode.reopen trivial trivial rfl (by simp)) (by simp) (.inl (by simp only [phi]; omega))
  · obtain ⟨a', w', es, hgo, ⟨rfl, rfl⟩, hg'⟩ := hstep W (rl_refl ty Wg W)
    exact h.idle hgo (.kd1 hg' h0) hmode (by simp) (by omega)

theorem Giv.c2 {m : Nat} (h : Giv P ty Wg C n B M WP K N j (r + 1) gs W t D ix ow l0 ids 0 a st sm) (hmode : ConcN.Mode j D (.sp (r + 1) 1) st sm)
    (h0 : Goes P true (Ro Wg C n B (fun i => ¬ M i)) (Dg Wg C n B (fun i => ¬ M i)) (AtGo P ty Wg C n B M WP (Sp P ty Wg C n B M WP K r) ids) m a (gw W l0)) :
    Went P ty Wg C n B M WP K N gs W sl t (phi N (Vc j D) (.sp (r + 1) 1) + Ssum j D, m + 2 * Fsum j D) := by
  rcases Goes.cases h0 with hstop | ⟨m', rfl, hstep⟩
  · obtain ⟨_, a', child, idx, l, hsp, _, hid, hM, hl, ⟨m₂, hwk⟩, hnext⟩ := hstop _ (ro_refl W l0 _)
    obtain ⟨hsp', _⟩ := stepG_spawn_out P (book W.heap.size l0) (w := W) hsp
    have hsp2 : stepG P true a W = .spawn a' child W #[] := hsp'
    obtain ⟨ho, rfl, rfl, _⟩ := hmode.open_inv trivial
    have hl' : ∀ b ∈ l, b ∈ l0 := fun b hb' => (mine_gw W l0 b).1 (hl b hb')
    have hl0 : ∀ b, b ∈ l0.filter (fun b => decide (b ∉ l)) ↔ b ∈ l0 ∧ b ∉ l := fun b => by simp
    have hnx := hnext (l0.filter (fun b => decide (b ∉ l))) (fun b => by rw [mine_gw]; exact hl0 b)
    have hnx' : Sp P ty Wg C n B M WP K r (idx :: ids) a' (gw W (l0.filter (fun b => decide (b ∉ l)))) := hnx
    have hrun' := runT_crowd_spawn (P := P) (sl := sl) (i := 0) h.ha (by simpa using hsp2)
    rw [h.hcm.size] at hrun'
    have hcm' := h.hcm.spawn (a' := a') (x := { g := 0, fn := a.frame.fn, pos := a.frame.place, act := .go (j + 1) }) (y := { g := j + 1, fn := child.frame.fn, pos := a.frame.place, act := .start }) ⟨rfl, rfl⟩ ⟨rfl, rfl⟩
      hl' hl0 (fun i hEl hi e => hid (by rw [← (show ix i = idx from e)]; exact h.hi1 i hEl hi)) hM (show Wk P ty Wg C n B WP idx m₂ child (gw W l) from hwk)
    have eV : Vc (j + 1) (upd D j ⟨7, m₂ + 24, 0⟩) = Vc j D + 1 := by
      simp only [Vc, sumTo, upd_same]
      rw [sumTo_upd_out D _ cnt (Nat.le_refl _)]; rfl
    have eS : Ssum (j + 1) (upd D j ⟨7, m₂ + 24, 0⟩) = Ssum j D + 7 := by
      simp only [Ssum, sumTo, upd_same]
      rw [sumTo_upd_out D _ WD.stage (Nat.le_refl _)]
    have ho' : OpenSt (j + 1) (upd D j ⟨7, m₂ + 24, 0⟩) := fun i hi => by
      by_cases e : i = j
      · subst e; rw [upd_same]; simp
      · rw [upd_ne D _ e]; exact ho i (by omega)
    have ha' : ((gs.setIfInBounds 0 a').push child)[0]? = some a' := by
      rw [Array.getElem?_push_lt (by simp [h.hcm.size]), ← Array.getElem?_eq_getElem]
      simp [h.hcm.size]
    have hi1' : ∀ i, OldE.el ≤ i → i < j + 1 → upd ix j idx i ∈ idx :: ids := fun i hEl hi => by
      by_cases e : i = j
      · subst e; rw [upd_same]; simp
      · rw [upd_ne ix _ e]; exact List.mem_cons_of_mem _ (h.hi1 i hEl (by omega))
    have hi2' : ∀ x ∈ idx :: ids, ∃ i, OldE.el ≤ i ∧ i < j + 1 ∧ upd ix j idx i = x := fun x hx => by
      rcases List.mem_cons.1 hx with rfl | hx
      · exact ⟨j, h.hcm.gm.hel, by omega, upd_same _ _ _⟩
      · obtain ⟨i, hEl, hi, e⟩ := h.hi2 x hx
        exact ⟨i, hEl, by omega, by rw [upd_ne ix _ (by omega)]; exact e⟩
    have est : ∀ tag', pend tag' = 0 → ((Vc j D + pend (.sp (r + 1) 1) : Nat) : Int) * KK = ((Vc (j + 1) (upd D j ⟨7, m₂ + 24, 0⟩) + pend tag' : Nat) : Int) * KK := fun tag' hp => by rw [eV, hp]; simp [pend]
    have hN := h.hN
    cases r with
    | zero =>
      obtain ⟨m₃, hk⟩ := hnx'
      refine ⟨_, _, (phi N (Vc (j + 1) (upd D j ⟨7, m₂ + 24, 0⟩)) (.sp 0 7) + Ssum (j + 1) (upd D j ⟨7, m₂ + 24, 0⟩), m₃ + 2 * Fsum (j + 1) (upd D j ⟨7, m₂ + 24, 0⟩)), hrun', Prod.Lex.left _ _ (by simp only [phi]; omega),
        _, W, sl, j + 1, _, _, _, .sp 0 7, 0, m₃, 0, a', _, _, _, idx :: ids, rfl, ha', .c0 hk, hcm', h.hwg, ?_, by simp, hi1', hi2', by omega, rfl⟩
      rw [est (.sp 0 7) rfl]
      exact .opn trivial ho' (by simp)
    | succ r' =>
      obtain ⟨m₃, hk⟩ := hnx'
      refine ⟨_, _, (phi N (Vc (j + 1) (upd D j ⟨7, m₂ + 24, 0⟩)) (.sp (r' + 1) 7) + Ssum (j + 1) (upd D j ⟨7, m₂ + 24, 0⟩), m₃ + 2 * Fsum (j + 1) (upd D j ⟨7, m₂ + 24, 0⟩)), hrun', Prod.Lex.left _ _ (by simp only [phi]; omega),
        _, W, sl, j + 1, _, _, _, .sp (r' + 1) 7, r' + 1, m₃, 0, a', _, _, _, idx :: ids, rfl, ha', .c1 hk, hcm', h.hwg, ?_, by simp, hi1', hi2', by omega, rfl⟩
      rw [est (.sp (r' + 1) 7) rfl]
      exact .opn trivial ho' (by simp)
  · exact mainComp h.hb h.ha h.hcm h.hwg hmode h.hi1 h.hi2 h.hN (by simp) hstep (fun hh => .c2 hh) (by omega)

theorem Giv.kd {m : Nat} {gT : Goroutine} {An : Goroutine → World → Prop} (h : Giv P ty Wg C n B M WP K N j 0 gs W t D ix ow l0 ids 0 a st sm) (hmode : ConcN.Mode j D .kd st sm) (hA1 : ∀ g w, An g w → g.status = .running)
    (hA2 : ∀ g w, An g w → ∃ m, Goes P true (RL ty Wg) DC0 (WW1 P ty Wg gT An) m g w) (hG : Goes P true (RL ty Wg) DC0 (WKd P ty Wg An) m a W) (hK : K ids gT (gw W l0)) :
    Went P ty Wg C n B M WP K N gs W sl t (phi N (Vc j D) .kd + Ssum j D, m + 2 * Fsum j D) := by
  have hN := h.hN
  have hVj := Vc_le j D
  rcases Goes.cases hG with hstop | ⟨m', rfl, hstep⟩
  · obtain ⟨_, a', hgo, m₂, hk⟩ := hstop W (rl_refl ty Wg W)
    exact h.bkp hgo (.refl Wg W) h.hwg bk_dis rfl (.anch hA1 hA2 hk hK) (hmode.reopen trivial trivial rfl (by simp)) (by simp) (.inl (by simp only [phi]; omega))
  · obtain ⟨a', w', es, hgo, ⟨rfl, rfl⟩, hg'⟩ := hstep W (rl_refl ty Wg W)
    exact h.idle hgo (.kd hA1 hA2 hg' hK) hmode (by simp) (by omega)

theorem Giv.w1 {m : Nat} {gT : Goroutine} {An : Goroutine → World → Prop} (h : Giv P ty Wg C n B M WP K N j 0 gs W t D ix ow l0 ids 1 a st sm) (hmode : ConcN.Mode j D .w1 st sm) (hA1 : ∀ g w, An g w → g.status = .running)
    (hA2 : ∀ g w, An g w → ∃ m, Goes P true (RL ty Wg) DC0 (WW1 P ty Wg gT An) m g w) (hG : Goes P true (RL ty Wg) DC0 (WW1 P ty Wg gT An) m a W) (hK : K ids gT (gw W l0)) :
    Went P ty Wg C n B M WP K N gs W sl t (phi N (Vc j D) .w1 + Ssum j D, m + 2 * Fsum j D) := by
  rcases Goes.cases hG with hstop | ⟨m', rfl, hstep⟩
  · obtain ⟨_, hall⟩ := hstop W (rl_refl ty Wg W)
    obtain ⟨ho, rfl, rfl, _⟩ := hmode.open_inv trivial
    have hV := Vc_le j D
    have hN := h.hN
    have hN2 := h.hN2
    have hwg := h.hwg
    obtain ⟨a', hgo, h0, hne⟩ := hall (Vc j D) (by omega) (by simpa [pend] using hwg)
    by_cases hv : Vc j D = 0
    · obtain ⟨m₂, hk⟩ := h0 hv
      refine h.bkp hgo (.refl Wg W) h.hwg bk_rd rfl (tag' := .ke) (.ke hk hK) ?_ (by simp) (.inl (by simp only [phi]; omega))
      have e : ((Vc j D + pend .w1 : Nat) : Int) * KK = 0 := by rw [hv]; simp [pend]
      rw [e]
      exact .fin trivial (allQuit_of ho hv)
    · obtain ⟨m₂, hk⟩ := hne hv
      exact h.bkp hgo (.refl Wg W) h.hwg bk_rd rfl (tag' := .w2 (Vc j D)) (.w2 hA1 hA2 hk hK) (hmode.reopen trivial trivial rfl (fun vs e => by cases e; omega)) (by simp) (.inl (by simp only [phi]; omega))
  · obtain ⟨a', w', es, hgo, ⟨rfl, rfl⟩, hg'⟩ := hstep W (rl_refl ty Wg W)
    exact h.idle hgo (.w1 hA1 hA2 hg' hK) hmode (by simp) (by omega)

omit [Payload] [OldG] [OldE] [Out0] in
theorem said_touch {Wg : Nat} {x : Touch} : ((MemAct.ofEvent (mk (.read (smA Wg)))).touch? = some x → ∃ ad : Addr, x.loc = .cell ad ∧ ad.block = Wg ∧ x.kind = .said) ∧ ((MemAct.ofEvent (mk (.write (smA Wg)))).touch? = some x → ∃ ad : Addr, x.loc = .cell ad ∧ ad.block = Wg ∧ x.kind = .said) := by
  refine ⟨fun h => ?_, fun h => ?_⟩ <;>
  · simp only [mk, MemAct.ofEvent, MemAct.touch?, Option.some.injEq] at h
    subst h
    exact ⟨_, rfl, rfl, rfl⟩

set_option maxHeartbeats 1600000 in
/-- A step of the starter's, unless it has come behind its Wait. -/
theorem stepM (h : Giv P ty Wg C n B M WP K N j r gs W t D ix ow l0 ids d0 a st sm) (hms : MS P ty Wg C n B M WP K ids l0 tag r f0 d0 a W) (hmode : ConcN.Mode j D tag st sm) (hacq : tag = .ret → AcqE Wg j t) (hrun : a.status = .running) :
    (tag = .ret ∧ K ids a (gw W l0)) ∨ Went P ty Wg C n B M WP K N gs W sl t (phi N (Vc j D) tag + Ssum j D, f0 + 2 * Fsum j D) := by
  have hVj := Vc_le j D
  have hN := h.hN
  have hN2 := h.hN2
  have rl := rl_refl ty Wg W
  have hlive : WgLive ty Wg W := ⟨_, _, h.hwg⟩
  have tr : ∀ a b c, Ro Wg C n B (fun i => ¬ M i) a b → Ro Wg C n B (fun i => ¬ M i) b c → Ro Wg C n B (fun i => ¬ M i) a c := fun _ _ _ a b => Ro.trans a b
  cases hms with
  | c1 h0 =>
    refine .inr ?_
    rcases Goes.cases h0 with hstop | ⟨m', rfl, hstep⟩
    · obtain ⟨_, gT, mm, hadd, hG⟩ := hstop _ (ro_refl W l0 _)
      obtain ⟨m₂, hk⟩ := hadd W hlive
      exact (h.kd1 (hmode.reopen trivial trivial rfl (by simp)) hk hG).mono (Prod.Lex.left _ _ (by simp only [phi]; omega))
    · exact mainComp h.hb h.ha h.hcm h.hwg hmode h.hi1 h.hi2 h.hN (by simp) hstep (fun hh => .c1 hh) (by omega)
  | kd1 hG h0 => exact .inr (h.kd1 hmode hG h0)
  | a1 hG h0 =>
    refine .inr ?_
    rcases Goes.cases hG with hstop | ⟨m', rfl, hstep⟩
    · obtain ⟨_, hall⟩ := hstop W rl
      obtain ⟨ho, rfl, rfl, _⟩ := hmode.open_inv trivial
      have hwg := h.hwg
      obtain ⟨a', hgo, hz, hnz⟩ := hall (Vc j D) (by omega) (by simpa [pend] using hwg)
      have e : ∀ r s, s ≤ 3 → (((Vc j D : Nat) : Int) + 1) * KK = ((Vc j D + pend (.sp r s) : Nat) : Int) * KK := fun r s hs => by simp [pend, hs]
      have hro := h.ro (aside_setCell W (stA Wg) (.int .u64 ((((Vc j D : Nat) : Int) + 1) * KK))) ⟨_, _, h.hwg.setSt _⟩
      by_cases hv : Vc j D = 0
      · obtain ⟨m₂, hk⟩ := hz hv
        refine h.bkp hgo (aside_setCell W (stA Wg) _) (h.hwg.setSt _) bk_rw rfl (.rd1 hk (Goes.rely tr h0 hro)) ?_ (by simp) (.inl (by simp only [phi]; omega))
        rw [e _ 3 (by omega)]
        exact .opn trivial ho (by simp)
      · obtain ⟨m₂, hk⟩ := hnz hv
        refine h.bkp hgo (aside_setCell W (stA Wg) _) (h.hwg.setSt _) bk_rw rfl (.ke1 hk (Goes.rely tr h0 hro)) ?_ (by simp) (.inl (by simp only [phi]; omega))
        rw [e _ 2 (by omega)]
        exact .opn trivial ho (by simp)
    · obtain ⟨a', w', es, hgo, ⟨rfl, rfl⟩, hg'⟩ := hstep W rl
      exact h.idle hgo (.a1 hg' h0) hmode (by simp) (by omega)
  | rd1 hG h0 =>
    refine .inr ?_
    rcases Goes.cases hG with hstop | ⟨m', rfl, hstep⟩
    · obtain ⟨_, a', hgo, m₂, hk⟩ := hstop W rl
      exact h.say hgo (fun x hx => said_touch.1 hx) ⟨by simp [mk], by simp [mk], by simp [mk]⟩ (.ke1 hk h0) (hmode.reopen trivial trivial rfl (by simp)) (by simp) (.inl (by simp only [phi]; omega))
    · obtain ⟨a', w', es, hgo, ⟨rfl, rfl⟩, hg'⟩ := hstep W rl
      exact h.idle hgo (.rd1 hg' h0) hmode (by simp) (by omega)
  | ke1 hG h0 =>
    refine .inr ?_
    rcases Goes.cases hG with hstop | ⟨m', rfl, hstep⟩
    · obtain ⟨_, a', hgo, m₂, hk⟩ := hstop W rl
      exact h.bkp hgo (.refl Wg W) h.hwg bk_en rfl (.en1 hk h0) (hmode.reopen trivial trivial rfl (by simp)) (by simp) (.inl (by simp only [phi]; omega))
    · obtain ⟨a', w', es, hgo, ⟨rfl, rfl⟩, hg'⟩ := hstep W rl
      exact h.idle hgo (.ke1 hg' h0) hmode (by simp) (by omega)
  | en1 hG h0 =>
    refine .inr ?_
    rcases Goes.cases hG with hstop | ⟨m', rfl, hstep⟩
    · obtain ⟨_, rfl⟩ := hstop W rl
      exact (h.c2 hmode h0).mono (Prod.Lex.right _ (by omega))
    · obtain ⟨a', w', es, hgo, ⟨rfl, rfl⟩, hg'⟩ := hstep W rl
      exact h.idle hgo (.en1 hg' h0) hmode (by simp) (by omega)
  | c2 h0 => exact .inr (h.c2 hmode h0)
  | c0 h0 =>
    refine .inr ?_
    rcases Goes.cases h0 with hstop | ⟨m', rfl, hstep⟩
    · obtain ⟨_, gT, ⟨An, hA1, hA2, hwait⟩, hK⟩ := hstop _ (ro_refl W l0 _)
      obtain ⟨m₂, hk⟩ := hwait W hlive
      exact (h.kd (hmode.reopen trivial trivial rfl (by simp)) hA1 hA2 hk hK).mono (Prod.Lex.left _ _ (by simp only [phi]; omega))
    · exact mainComp h.hb h.ha h.hcm h.hwg hmode h.hi1 h.hi2 h.hN (by simp) hstep (fun hh => .c0 hh) (by omega)
  | kd hA1 hA2 hG hK => exact .inr (h.kd hmode hA1 hA2 hG hK)
  | anch hA1 hA2 hG hK =>
    refine .inr ?_
    rcases Goes.cases hG with hstop | ⟨m', rfl, hstep⟩
    · obtain ⟨m₂, hk⟩ := hA2 a W (hstop W rl)
      exact (h.w1 (hmode.reopen trivial trivial rfl (by simp)) hA1 hA2 hk hK).mono (Prod.Lex.left _ _ (by simp only [phi]; omega))
    · obtain ⟨a', w', es, hgo, ⟨rfl, rfl⟩, hg'⟩ := hstep W rl
      exact h.idle hgo (.anch hA1 hA2 hg' hK) hmode (by simp) (by omega)
  | w1 hA1 hA2 hG hK => exact .inr (h.w1 hmode hA1 hA2 hG hK)
  | @w2 vs _ _ _ _ _ hA1 hA2 hG hK =>
    refine .inr ?_
    rcases Goes.cases hG with hstop | ⟨m', rfl, hstep⟩
    · obtain ⟨_, hall⟩ := hstop W rl
      obtain ⟨ho, rfl, rfl, hw2⟩ := hmode.open_inv trivial
      obtain ⟨hle, h1⟩ := hw2 vs rfl
      have hwg := h.hwg
      obtain ⟨hhit, hmiss⟩ := hall (Vc j D) (by omega) (by simpa [pend] using hwg)
      by_cases e : Vc j D = vs
      · obtain ⟨a', hgo, m₂, hk⟩ := hhit e
        have hro := h.ro (aside_setCell W (stA Wg) (.int .u64 (((Vc j D : Nat) : Int) * KK + 1))) ⟨_, _, h.hwg.setSt _⟩
        exact h.bkp hgo (aside_setCell W (stA Wg) _) (h.hwg.setSt _) bk_rw rfl (.wr hk (h.hb.k _ _ _ _ hro hK)) (.reg trivial ho (by omega)) (by simp) (.inl (by simp only [phi]; omega))
      · obtain ⟨a', hgo, m₂, hk⟩ := hmiss e
        exact h.bkp hgo (.refl Wg W) h.hwg bk_rd rfl (.anch hA1 hA2 hk hK) (hmode.reopen trivial trivial rfl (by simp)) (by simp) (.inl (by simp only [phi]; omega))
    · obtain ⟨a', w', es, hgo, ⟨rfl, rfl⟩, hg'⟩ := hstep W rl
      exact h.idle hgo (.w2 hA1 hA2 hg' hK) hmode (by simp) (by omega)
  | wr hG hK =>
    refine .inr ?_
    rcases Goes.cases hG with hstop | ⟨m', rfl, hstep⟩
    · obtain ⟨_, a', hgo, m₂, h60, hk⟩ := hstop W rl
      exact h.say hgo (fun x hx => said_touch.2 hx) ⟨by simp [mk], by simp [mk], by simp [mk]⟩ (.w3 hk hK) hmode (by simp) (.inr ⟨rfl, by omega⟩)
    · obtain ⟨a', w', es, hgo, ⟨rfl, rfl⟩, hg'⟩ := hstep W rl
      exact h.idle hgo (.wr hg' hK) hmode (by simp) (by omega)
  | w3 hG hK =>
    refine .inr ?_
    rcases Goes.cases hG with hstop | ⟨m', rfl, hstep⟩
    · obtain ⟨_, hoff, hblk, htake⟩ := hstop W rl
      have hwg := h.hwg
      cases hmode with
      | opn h1 _ _ => exact h1.elim
      | reg h1 h2 h3 => exact h.bkp (hblk ⟨_, hwg⟩) (.refl Wg W) hwg (by simp) rfl (.blk hstop hK) (.reg trivial h2 h3) (by simp) (.inr ⟨rfl, by omega⟩)
      | last L h1 h2 h3 h4 => exact h.bkp (hblk ⟨_, hwg⟩) (.refl Wg W) hwg (by simp) rfl (.blk hstop hK) (.last L trivial h2 h3 h4) (by simp) (.inr ⟨rfl, by omega⟩)
      | sema h2 =>
        obtain ⟨a', hgo, m₂, hk⟩ := htake hwg
        have hro := h.ro (aside_setCell W (smA Wg) (.int .u32 0)) ⟨_, _, h.hwg.setSm 0⟩
        exact h.bkp hgo (aside_setCell W (smA Wg) _) (hwg.setSm 0) bk_sem (by simp [deafBehind, semEvents]) (.w4 hk (h.hb.k _ _ _ _ hro hK)) (.fin trivial h2) (by simp) (.inl (by simp only [phi]; omega))
      | fin h1 _ => exact h1.elim
    · obtain ⟨a', w', es, hgo, ⟨rfl, rfl⟩, hg'⟩ := hstep W rl
      exact h.idle hgo (.w3 hg' hK) hmode (by simp) (by omega)
  | blk hG hK => simp at hrun
  | w4 hG hK =>
    refine .inr ?_
    rcases Goes.cases hG with hstop | ⟨m', rfl, hstep⟩
    · obtain ⟨_, hx⟩ := hstop W rl
      obtain ⟨hq, rfl, rfl⟩ := hmode.fin_inv trivial
      obtain ⟨a', hgo, m₂, hk⟩ := hx h.hwg
      exact h.bkp hgo (.refl Wg W) h.hwg bk_rd rfl (.ke hk hK) (.fin trivial hq) (by simp) (.inl (by simp only [phi]; omega))
    · obtain ⟨a', w', es, hgo, ⟨rfl, rfl⟩, hg'⟩ := hstep W rl
      exact h.idle hgo (.w4 hg' hK) hmode (by simp) (by omega)
  | ke hG hK =>
    refine .inr ?_
    rcases Goes.cases hG with hstop | ⟨m', rfl, hstep⟩
    · obtain ⟨_, a', hgo, m₂, hk⟩ := hstop W rl
      obtain ⟨hq, rfl, rfl⟩ := hmode.fin_inv trivial
      exact h.bkp hgo (.refl Wg W) h.hwg bk_en rfl (.acq hk hK) (.fin trivial hq) (by simp) (.inl (by simp only [phi]; omega))
    · obtain ⟨a', w', es, hgo, ⟨rfl, rfl⟩, hg'⟩ := hstep W rl
      exact h.idle hgo (.ke hg' hK) hmode (by simp) (by omega)
  | acq hG hK =>
    refine .inr ?_
    rcases Goes.cases hG with hstop | ⟨m', rfl, hstep⟩
    · obtain ⟨_, a', hgo, m₂, hk⟩ := hstop W rl
      obtain ⟨hq, rfl, rfl⟩ := hmode.fin_inv trivial
      refine h.say hgo (fun x hx => by cases hx) ⟨by simp [mk], by simp [mk], by simp [mk]⟩ (.ret hk hK) (.fin trivial hq) (fun _ => ?_) (.inl (by simp only [phi]; omega))
      have e1 : MemOp.ofEvents 0 a.frame.fn a.frame.place #[mk (.acquire (stA Wg))] = #[{ g := 0, fn := a.frame.fn, pos := a.frame.place, act := .mark (.acquire (stA Wg)) }] := by rw [ofEvents_eq]; simp [ofEvent_mk]
      have hy : (t ++ #[({ g := 0, fn := a.frame.fn, pos := a.frame.place, act := .mark (.acquire (stA Wg)) } : MemOp)])[t.size]? = some { g := 0, fn := a.frame.fn, pos := a.frame.place, act := .mark (.acquire (stA Wg)) } := by simp
      refine ⟨t.size, by rw [e1, act?_of hy], by rw [e1]; simp [Trace.g?], by rw [e1]; exact ⟨0, by simp [Trace.g?], by rw [deaf_old (Nat.le_refl _)]; exact h.hcm.deaf0⟩, fun i hEl hi => ?_⟩
      obtain ⟨r, hr, hrs⟩ := h.hcm.rel i hEl hi (by rw [hq i hi]; omega)
      exact ⟨r, hr.appOther g_of_ofEvents (by omega), lt_of_act? hr.act, hrs⟩
    · obtain ⟨a', w', es, hgo, ⟨rfl, rfl⟩, hg'⟩ := hstep W rl
      exact h.idle hgo (.acq hg' hK) hmode (by simp) (by omega)
  | ret hG hK =>
    rcases Goes.cases hG with hstop | ⟨m', rfl, hstep⟩
    · obtain ⟨_, rfl⟩ := hstop W rl
      exact .inl ⟨rfl, hK⟩
    · obtain ⟨a', w', es, hgo, ⟨rfl, rfl⟩, hg'⟩ := hstep W rl
      exact .inr (h.idle hgo (.ret hg' hK) hmode hacq (by omega))
end

end Go.Gh

/-
  Workers that make memory, and their starter: from the first go statement to the return, on every tape. Behind the join goroutine 0 goes on beside goroutines that only leave.
-/
namespace Go.Gh
open Go.Conc Go.ConcN
open Go.ConcR (KK WgAt stA smA rd wr mk Payload DC0 g_of_ofEvents)
variable [Payload] [OldG] [OldE] [Out0]

/-- What a step of goroutine 0's may list behind the join. -/
def DL (Wg B : Nat) (_ _ : World) (es : Array Event) : Prop := ∀ e ∈ es, EvL (ShN Wg) B e

omit [Payload] [OldG] [OldE] [Out0] in
theorem low_bound (act : MemAct) : ∃ B, act.low B := by
  cases act with
  | access e =>
    obtain ⟨loc, _, _⟩ := e
    cases loc with
    | cell a => exact ⟨a.block + 1, Nat.lt_succ_self _⟩
    | obj r => exact ⟨r + 1, Nat.lt_succ_self _⟩
    | _ => exact ⟨0, trivial⟩
  | mark m =>
    cases m with
    | acquire a => exact ⟨a.block + 1, Nat.lt_succ_self _⟩
    | release a => exact ⟨a.block + 1, Nat.lt_succ_self _⟩
    | releaseMerge a => exact ⟨a.block + 1, Nat.lt_succ_self _⟩
    | read a => exact ⟨a.block + 1, Nat.lt_succ_self _⟩
    | write a => exact ⟨a.block + 1, Nat.lt_succ_self _⟩
    | _ => exact ⟨0, trivial⟩
  | go _ => exact ⟨0, trivial⟩
  | start => exact ⟨0, trivial⟩
  | send c _ => exact ⟨c + 1, Nat.lt_succ_self _⟩
  | sendDone c _ => exact ⟨c + 1, Nat.lt_succ_self _⟩
  | recv c _ _ => exact ⟨c + 1, Nat.lt_succ_self _⟩
  | recvDone c _ => exact ⟨c + 1, Nat.lt_succ_self _⟩
  | close c => exact ⟨c + 1, Nat.lt_succ_self _⟩
  | recvClosed c => exact ⟨c + 1, Nat.lt_succ_self _⟩
omit [Payload] [OldG] [OldE] [Out0] in
theorem low_bound_all (t : Trace) : ∃ B, ∀ op ∈ t, op.act.low B := by
  have key : ∀ l : List MemOp, ∃ B, ∀ op ∈ l, op.act.low B := by
    intro l
    induction l with
    | nil => exact ⟨0, by simp⟩
    | cons x l ih =>
      obtain ⟨B, hB⟩ := ih
      obtain ⟨B', hB'⟩ := low_bound x.act
      refine ⟨max B B', fun op hop => ?_⟩
      rcases List.mem_cons.1 hop with rfl | hop
      · exact MemAct.low_mono (Nat.le_max_right _ _) hB'
      · exact MemAct.low_mono (Nat.le_max_left _ _) (hB op hop)
  obtain ⟨B, hB⟩ := key t.toList
  exact ⟨B, fun op hop => hB op (by simpa using hop)⟩

section
variable {P : Program} {ty : TypeId} {Wg C n B : Nat} {M : Nat → Prop} {WP : Nat → Value → World → Prop} {K : List Nat → Goroutine → World → Prop} {N : Nat} {Post : Value → World → Prop}
  {gs : Array Goroutine} {W W' : World} {sl : Option (Nat × Nat)} {j : Nat} {D : Nat → WD} {ix : Nat → Nat} {ow : Nat → List Nat} {tag : CTag} {r f0 d0 : Nat} {a : Goroutine} {t : Trace} {st sm : Int} {l0 ids : List Nat}

omit [Out0] [OldE] in
theorem WS.running {idx s m d : Nat} {l : List Nat} {g : Goroutine} (h : WS P ty Wg C n B WP idx l s m d g W) (hs : s ≠ 1) : g.status = .running := by
  cases h with
  | comp h => exact Goes.running (fun _ _ x => x.1) (gw W l) (ro_refl W l _) h
  | lib h _ _ _ => exact h.running_of hs

omit [Out0] [OldE] in
theorem MS.pend_le (h : MS P ty Wg C n B M WP K ids l0 tag r f0 d0 a W) : pend tag ≤ r := by
  cases h <;> simp [pend]

theorem some_runs (ha : gs[0]? = some a) (hms : MS P ty Wg C n B M WP K ids l0 tag r f0 d0 a W) (hcm : Cm P ty Wg C n B M WP j gs W t D ix ow l0 d0) (hmode : ConcN.Mode j D tag st sm) : ∃ (i : Nat) (g : Goroutine), gs[i]? = some g ∧ g.status = .running := by
  have away : ∀ i, (D i).stage ≠ 1 → OldE.el ≤ i := fun i h => Nat.le_of_not_lt fun hlt => let ⟨_, _, h1, _⟩ := hcm.eld i hlt; h h1
  rcases hms.status with ⟨hs, _⟩ | ⟨_, rfl⟩
  · exact ⟨0, a, ha, hs⟩
  · cases hmode with
    | opn h1 _ _ => exact h1.elim
    | reg _ _ h3 =>
      obtain ⟨i, hi, h5⟩ := exists_counted h3
      obtain ⟨g, hg, hs⟩ := hcm.wk i (away i (by omega)) hi
      exact ⟨i + 1, g, hg, hs.running (by omega)⟩
    | last L _ h2 h3 _ =>
      obtain ⟨g, hg, hs⟩ := hcm.wk L (away L (by omega)) h2
      exact ⟨L + 1, g, hg, hs.running (by omega)⟩
    | fin h1 _ => exact h1.elim

theorem all_wake (ha : gs[0]? = some a) (hms : MS P ty Wg C n B M WP K ids l0 tag r f0 d0 a W) (hcm : Cm P ty Wg C n B M WP j gs W t D ix ow l0 d0) : ∀ g ∈ gs, awake g := by
  intro g hg tm
  obtain ⟨i, hi⟩ := Array.mem_iff_getElem?.1 hg
  cases i with
  | zero =>
    rw [ha] at hi; cases hi
    rcases hms.status with ⟨hs, _⟩ | ⟨hs, _⟩ <;> rw [hs] <;> simp
  | succ i =>
    have hlt : i < j := by have := (Array.getElem?_eq_some_iff.1 hi).1; rw [hcm.size] at this; omega
    rcases Nat.lt_or_ge i OldE.el with he | he
    · obtain ⟨g', hg', _, hs⟩ := hcm.eld i he
      rw [hi] at hg'; cases hg'
      rcases hs.status with h | h <;> rw [h] <;> simp
    · obtain ⟨g', hg', hs⟩ := hcm.wk i he hlt
      rw [hi] at hg'; cases hg'
      rcases hs.status with h | h <;> rw [h] <;> simp

/-- A step of an elder one's. -/
theorem Cm.stepE (h : Cm P ty Wg C n B M WP j gs W t D ix ow l0 d0) {i : Nat} (hi : i < OldE.el) {g g' : Goroutine} {fn : FuncId} {pos : String} {es : Array Event} {q : Nat} (hm : ∀ e ∈ es, Event.mute e = true) (hq : QuitsD P q (deafBehind (D i).deaf es) g') :
    Cm P ty Wg C n B M WP j ((gs.map (woken P g g' W)).setIfInBounds (i + 1) g') W (t ++ MemOp.ofEvents (i + 1) fn pos es) (upd D i ⟨1, q, deafBehind (D i).deaf es⟩) ix ow l0 d0 := by
  have hel := h.gm.hel
  have hbk : ∀ e ∈ es, Go.ConcR.Bk Wg e := fun e he => Go.ConcR.bk_of_mute (hm e he)
  have hne : NoElder (MemOp.ofEvents (i + 1) fn pos es) := fun op hop => by
    obtain ⟨e, he, rfl⟩ := Go.Conc.mem_ofEvents hop
    exact .inr (.inr (touch_mute (hm e he)))
  refine ⟨by simp [h.size], fun i' hl' hi' => ?_, fun i' hl' => ?_, h.past.app hne, h.over.app hne, h.ct.appW h.gm.apart (by omega) (by omega) (okW_bk hbk), h.norel.app (norel_of (norel_of_Bk hbk)), by have := h.hts; simp only [Array.size_append]; omega,
    low_app h.low (Nat.le_refl _) (fun op hop => by obtain ⟨e, he, rfl⟩ := Go.Conc.mem_ofEvents hop; exact lowT_none (touch_mute (hm e he))), by rw [Deaf_other t (by omega) _ g_of_ofEvents, h.deaf0], fun i' hi' => ?_, fun i' hl' hi' hst => ?_, h.pay, h.gm, h.out, h.os⟩
  · obtain ⟨x, hx, hsx⟩ := h.wk i' hl' hi'
    refine ⟨x, by rw [get_map_set _ _ _ _ (by omega), hx, Option.map_some, hsx.woken], ?_⟩
    rw [upd_ne D _ (by omega)]
    exact hsx
  · by_cases e : i' = i
    · subst e
      refine ⟨g', get_map_set_same _ _ _ (by rw [h.size]; omega), ?_⟩
      rw [upd_same]
      exact ⟨rfl, hq⟩
    · obtain ⟨x, hx, hx1, hx2⟩ := h.eld i' hl'
      refine ⟨x, by rw [get_map_set _ _ _ _ (by omega), hx, Option.map_some, woken_quitsD hx2], ?_⟩
      rw [upd_ne D _ e]
      exact ⟨hx1, hx2⟩
  · by_cases e : i' = i
    · subst e; rw [Deaf_own, h.deafW i' hi', upd_same]
    · rw [Deaf_other t (by omega) _ g_of_ofEvents, h.deafW i' hi', upd_ne D _ e]
  · rw [upd_ne D _ (by omega)] at hst
    obtain ⟨r, hr, hrs⟩ := h.rel i' hl' hi' hst
    exact ⟨r, hr.appOther g_of_ofEvents (by omega), hrs⟩

theorem stepE (ha : gs[0]? = some a) (hms : MS P ty Wg C n B M WP K ids l0 tag r f0 d0 a W) (hcm : Cm P ty Wg C n B M WP j gs W t D ix ow l0 d0)
    (hwg : WgAt ty Wg W st sm) (hmode : ConcN.Mode j D tag st sm) (hacq : tag = .ret → AcqE Wg j t) (hi1 : ∀ i, OldE.el ≤ i → i < j → ix i ∈ ids) (hi2 : ∀ x ∈ ids, ∃ i, OldE.el ≤ i ∧ i < j ∧ ix i = x) (hN : j + r = N)
    {i : Nat} (hi : i < OldE.el) {g : Goroutine} (hg : gs[i + 1]? = some g) (hrun : g.status = .running) :
    ∃ m₁ ops μ', runT P (crowd gs W sl) (i + 1) = (.next m₁, ops) ∧ Lt2 μ' (phi N (Vc j D) tag + Ssum j D, f0 + 2 * Fsum j D) ∧ Iv P ty Wg C n B M WP K N μ' m₁ (t ++ ops) := by
  obtain ⟨x, hx, hst, hq⟩ := hcm.eld i hi
  obtain rfl : g = x := by rw [hg] at hx; exact Option.some.inj hx
  have hij : i < j := by have := hcm.gm.hel; omega
  cases hf : (D i).fuel with
  | zero => rw [hf] at hq; rw [hq.1] at hrun; cases hrun
  | succ q =>
    rw [hf] at hq
    rcases hq with ⟨h, _⟩ | ⟨_, g', es, hm, hstep, hq'⟩
    · rw [h] at hrun; cases hrun
    obtain ⟨tag', f', hms', hf', htag, _⟩ := hms.wokenBy g g'
    have hrunT := runT_crowd_go (P := P) (sl := sl) (i := i + 1) hg (by simpa using hstep W)
    have e1 := sumTo_upd D (⟨1, q, deafBehind (D i).deaf es⟩ : WD) cnt hij
    have e2 := sumTo_upd D (⟨1, q, deafBehind (D i).deaf es⟩ : WD) WD.stage hij
    have e3 := sumTo_upd D (⟨1, q, deafBehind (D i).deaf es⟩ : WD) WD.fuel hij
    have hmode' : ConcN.Mode j (upd D i ⟨1, q, deafBehind (D i).deaf es⟩) tag st sm := by
      have := hmode.same (i := i) q (deafBehind (D i).deaf es)
      rwa [hst] at this
    refine ⟨_, _, (phi N (Vc j (upd D i ⟨1, q, deafBehind (D i).deaf es⟩)) tag' + Ssum j (upd D i ⟨1, q, deafBehind (D i).deaf es⟩), f' + 2 * Fsum j (upd D i ⟨1, q, deafBehind (D i).deaf es⟩)), hrunT, ?_,
      _, W, sl, j, upd D i ⟨1, q, deafBehind (D i).deaf es⟩, ix, ow, tag', r, f', d0, woken P g g' W a, st, sm, l0, ids, rfl, by rw [get_map_set _ _ _ _ (by omega), ha]; rfl, hms', hcm.stepE hi hm hq', hwg, hmode'.retag htag, fun e => ?_, hi1, hi2, hN, rfl⟩
    · rw [phi_retag N _ htag]
      simp only [Vc, Ssum, Fsum] at *
      have ec : cnt (⟨1, q, deafBehind (D i).deaf es⟩ : WD) = cnt (D i) := by simp only [cnt, hst]
      have ev : (sumTo j fun a => cnt (upd D i ⟨1, q, deafBehind (D i).deaf es⟩ a)) = sumTo j fun a => cnt (D a) := by omega
      have es' : (sumTo j fun a => (upd D i ⟨1, q, deafBehind (D i).deaf es⟩ a).stage) = sumTo j fun a => (D a).stage := by omega
      rw [ev, es']
      refine Prod.Lex.right _ ?_
      omega
    · have e' : tag = .ret := by
        rcases htag with rfl | ⟨_, rfl⟩
        · exact e
        · cases e
      exact (hacq e').app fun i' r hl _ hr => hr.appOther g_of_ofEvents (by omega)

/-- Behind the join: all is known to goroutine 0, but the atomic touches of the groups. -/
theorem join_past (hcm : Cm P ty Wg C n B M WP j gs W t D ix ow l0 0) (hacq : AcqE Wg j t) {B' : Nat} (hB : ∀ op ∈ t, op.act.low B') : Past (ShO Wg) B' t := by
  obtain ⟨q, h1, h2, h3, h4⟩ := hacq
  have hg : ∀ i g, t.g? i = some g → OldE.el < g → ∃ r, RelBy (stA Wg) t g r ∧ r < q ∧ OldE.ts ≤ r := by
    intro i g hgi hne
    obtain ⟨op, ho, rfl⟩ := Option.map_eq_some_iff.1 hgi
    have := hcm.ct.gs i op ho
    have := h4 (op.g - 1) (by omega) (by omega)
    rwa [show op.g - 1 + 1 = op.g by omega] at this
  have edge : ∀ {g r : Nat}, RelBy (stA Wg) t g r → r < q → OldE.ts ≤ r → HappensBefore t r q := fun hr hrq hrs => .single (.inr ⟨.marked hrq (.inr hr.act) h1 (fun k hk _ => hcm.norel k (by omega)), hr.heard, h3⟩)
  have hover : t.HandedOver := by
    intro i g hgi hne hc
    rcases Nat.lt_or_ge OldE.el g with he | he
    · obtain ⟨r, hr, hrq, hrs⟩ := hg i g hgi he
      have hle : i ≤ r := Nat.le_of_not_lt fun hlt => hr.after i hlt hgi hc
      rcases Nat.lt_or_ge i r with hlt | hge
      · exact ⟨q, h2, .trans (.single (.inl ⟨hlt, g, hgi, hr.g⟩)) (edge hr hrq hrs)⟩
      · obtain rfl : i = r := by omega
        exact ⟨q, h2, edge hr hrq hrs⟩
    · exact hcm.over i g hgi hne he hc
  have hq0 : ∃ z, t[q]? = some z ∧ z.g = 0 := by
    obtain ⟨z, hz, hz'⟩ := Option.map_eq_some_iff.1 h2
    exact ⟨z, hz, hz'⟩
  refine ⟨hcm.ct.nr, fun i x hx hm => ?_, hover, hcm.deaf0, hB⟩
  obtain ⟨op, ho, hox⟩ := touch_of hx
  by_cases hz : op.g = 0
  · exact .inl (by have := knows_own ho; rwa [hz] at this)
  · rcases Nat.lt_or_ge OldE.el op.g with he | he
    · obtain ⟨r, hr, hrq, hrs⟩ := hg i op.g (by simp [Trace.g?, ho]) he
      obtain ⟨z, hz1, hz2⟩ := hq0
      rcases Nat.lt_or_ge r i with hlt | hge
      · have hnc := hr.after i hlt (by simp [Trace.g?, ho])
        refine .inr ?_
        have hat : x.kind = .atomic := by
          by_cases hk : x.kind = .atomic
          · exact hk
          · exact absurd ⟨x, hx, hm, .inl hk⟩ hnc
        exact ⟨.inl ((hcm.low op (Array.mem_of_getElem? ho) x hox).2.1 he hat), hat⟩
      · refine .inl ⟨q, z, hz1, hz2, .inr ?_⟩
        rcases Nat.lt_or_ge i r with hlt | hge'
        · exact .trans (.single (.inl ⟨hlt, op.g, by simp [Trace.g?, ho], hr.g⟩)) (edge hr hrq hrs)
        · obtain rfl : i = r := by omega
          exact edge hr hrq hrs
    · exact hcm.past i op x ho hox hm hz he

theorem join_leavers (hcm : Cm P ty Wg C n B M WP j gs W t D ix ow l0 0) (hq : AllQuit j D) : Leavers P t gs (fun i => (D (i - 1)).fuel) := by
  refine ⟨fun i g hi hg => ?_, fun i hi => ?_⟩
  · obtain ⟨i', rfl⟩ : ∃ i', i = i' + 1 := ⟨i - 1, by omega⟩
    have hlt : i' < j := by have := (Array.getElem?_eq_some_iff.1 hg).1; rw [hcm.size] at this; omega
    rw [hcm.deafW i' hlt]
    rcases Nat.lt_or_ge i' OldE.el with he | he
    · obtain ⟨g', hg', _, hs'⟩ := hcm.eld i' he
      rw [hg] at hg'
      cases hg'
      exact hs'
    · obtain ⟨g', hg', hs'⟩ := hcm.wk i' he hlt
      rw [hg] at hg'
      cases hg'
      rw [hq i' hlt] at hs'
      exact hs'.quits
  · exact Deaf_absent fun a op ha e => by have := hcm.ct.gs a op ha; rw [hcm.size] at hi; omega

/-- What is kept of the trace behind a join, for the next fork. -/
structure LateT (Shun : Loc → Prop) (sz e : Nat) (t : Trace) : Prop where
  quiet : Quiet Shun t
  gs : ∀ op ∈ t, op.g ≤ e
  low : ∀ op ∈ t, ∀ x, op.act.touch? = some x → (∀ ad, x.loc = .cell ad → ad.block < sz) ∧ (op.g ≠ 0 → x.loc.isMemory = true)

theorem join_late (hcm : Cm P ty Wg C n B M WP j gs W t D ix ow l0 0) : LateT (ShO Wg) W.heap.size j t :=
  ⟨hcm.ct.quiet, fun op hop => let ⟨i, hi⟩ := Array.mem_iff_getElem?.1 hop; hcm.ct.gs i op hi, fun op hop x hx => ⟨(hcm.low op hop x hx).1, (hcm.low op hop x hx).2.2⟩⟩

/-- The old groups' places. -/
def OldS (l : Loc) : Prop := ∃ a : Addr, l = .cell a ∧ OldG.old a.block

/-- The beginning, beside those that leave. -/
theorem iv_start2 {q : Nat → Nat} {B₀ : Nat} (ha : gs[0]? = some a) (hsz : gs.size = OldE.el + 1) (hL : Leavers P t gs q) (hP : Past (ShO Wg) B₀ t) (hT : LateT (ShO Wg) W.heap.size OldE.el t) (hts : t.size = OldE.ts)
    (hold : ∀ b, OldG.old b → b < B ∧ b ≠ C) (hW : Wg < B) (hC : C < B) (hCW : C ≠ Wg) (hB : B ≤ W.heap.size) (hwg : WgAt ty Wg W 0 0) (hpay : PayAt C n W) (hsp : Sp P ty Wg C n B M WP K N [] a (gw W []))
    (ho : W.output = Out0.o0) (hos : W.os = Out0.os0) :
    ∃ μ, Iv P ty Wg C n B M WP K (OldE.el + N) μ (crowd gs W sl) t := by
  have kn : ∀ l, ¬ ShO Wg l → Perm t 0 l := fun l hl i x hx e => by
    obtain ⟨op, ho, hox⟩ := touch_of hx
    by_cases h0 : op.g = 0
    · have := knows_own ho
      rwa [h0] at this
    · rcases hP.known i x hx ((hT.low op (Array.mem_of_getElem? ho) x hox).2 h0) with h | ⟨h, _⟩
      · exact h
      · exact absurd (e ▸ h) hl
  have gm : Gm Wg C B M OldE.el (fun _ => 0) (fun _ => []) [] W.heap.size := ⟨hW, hC, hCW, hB, fun _ _ => by simp, by simp, fun _ _ _ _ _ h => absurd h (by simp), fun _ _ _ h => absurd h (by simp), fun _ _ h _ h' => absurd h (by omega), fun _ h h' => absurd h (by omega), Nat.le_refl _, hold⟩
  have ct : CT (ShO Wg) (OwnF C OldE.el (fun _ => 0) (fun _ => [])) (RdF Wg C B) t OldE.el :=
    ⟨hT.quiet, fun k _ kj l hl => absurd hl.1 (by omega), fun k _ kj l hl => absurd hl.1 (by omega), fun l hs _ => kn l hs, fun l hs _ => .of (kn l hs), hP.clean,
      fun i op hi => hT.gs op (Array.mem_of_getElem? hi)⟩
  have get : ∀ i, i < OldE.el → ∃ g, gs[i + 1]? = some g := fun i hi => ⟨gs[i + 1]'(by omega), Array.getElem?_eq_getElem (by omega)⟩
  have cm : Cm P ty Wg C n B M WP OldE.el gs W t (fun i => ⟨1, q (i + 1), Deaf t (i + 1)⟩) (fun _ => 0) (fun _ => []) [] 0 :=
    ⟨hsz, fun i h h' => absurd h (by omega), fun i hi => let ⟨g, hg⟩ := get i hi; ⟨g, hg, rfl, hL.old (i + 1) g (by omega) hg⟩, fun i op x hi hx hm h0 _ => (hP.known i x (by rw [touchAt_of hi]; exact hx) hm), fun i g hg hne _ hc => hP.over i g hg hne hc, ct,
      fun i hi e => by obtain ⟨op, hop, _⟩ := Option.map_eq_some_iff.1 e; have := lt_size_of_getElem? hop; omega, Nat.le_of_eq hts.symm,
      fun op hop x hx => ⟨(hT.low op hop x hx).1, fun h => by have := hT.gs op hop; omega, (hT.low op hop x hx).2⟩, hP.hears, fun _ _ => rfl, fun i h h' => absurd h (by omega), hpay, gm, ho, hos⟩
  have hV : Vc OldE.el (fun i => (⟨1, q (i + 1), Deaf t (i + 1)⟩ : WD)) = 0 := by
    have : ∀ n, (sumTo n fun a => cnt (⟨1, q (a + 1), Deaf t (a + 1)⟩ : WD)) = 0 := fun n => by
      induction n with
      | zero => rfl
      | succ n ih => simp only [sumTo, ih]; rfl
    exact this _
  have md : ∀ tag, isOpen tag → pend tag = 0 → (∀ vs, tag ≠ .w2 vs) → ConcN.Mode OldE.el (fun i => (⟨1, q (i + 1), Deaf t (i + 1)⟩ : WD)) tag 0 0 := fun tag h1 h2 h3 => by
    have := ConcN.Mode.opn (j := OldE.el) (D := fun i => (⟨1, q (i + 1), Deaf t (i + 1)⟩ : WD)) h1 (fun _ _ => by simp) (fun vs e => absurd e (h3 vs))
    rw [h2, hV] at this
    simpa using this
  cases N with
  | zero =>
    obtain ⟨m, hm⟩ := hsp
    exact ⟨_, gs, W, sl, OldE.el, _, _, _, .sp 0 7, 0, m, 0, a, 0, 0, [], [], rfl, ha, .c0 hm, cm, hwg, md _ trivial rfl (by simp), by simp, fun _ h h' => absurd h (by omega), by simp, rfl, rfl⟩
  | succ r =>
    obtain ⟨m, hm⟩ := hsp
    exact ⟨_, gs, W, sl, OldE.el, _, _, _, .sp (r + 1) 7, r + 1, m, 0, a, 0, 0, [], [], rfl, ha, .c1 hm, cm, hwg, md _ trivial rfl (by simp), by simp, fun _ h h' => absurd h (by omega), by simp, rfl, rfl⟩
end

#print axioms iv_start2
end Go.Gh

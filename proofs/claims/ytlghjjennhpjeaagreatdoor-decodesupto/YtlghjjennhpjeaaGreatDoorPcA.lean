/-
  How the program reads a shard: a Reader: made, asked whether it is closed.
  How the program reads a shard: a Reader fed and finished; Parse.
  How the program reads a shard: a Reader finished.
  The program's Parse.
  What the statements' own comparison of two shards answers.
-/
import Derived.Test.YtlghjjennhpjeaaGreatDoorPrV
import Derived.Test.YtlghjjennhpjeaaGreatDoorErD
import Derived.Lib.Builder
import Derived.Test.YtlghjjennhpjeaaGreatDoorPlA
import Derived.Lib.SlBytesConst
import Derived.Shelf.Bytes.SlJoin
import Derived.Ground.SlbNamesProg
import Derived.Test.YtlghjjennhpjeaaGreatDoorProg
import Derived.Test.YtlghjjennhpjeaaGreatDoorEnS
import Derived.Test.YtlghjjennhpjeaaGreatDoorScanF
namespace Go.Proofs.YtlghjjennhpjeaaGreatDoor
open Go.RowKit Go.Deep

set_option maxHeartbeats 2000000 in
set_option maxRecDepth 100000 in
theorem end_dead (rb : Nat) (l : List UInt8) (w : World) (hD : Dead w rb l) : Calls Tryz.prog 44 #[.pointer (some ⟨rb, 0, none⟩)] w fun q w' => EndPost 0 w l (fun _ => False) q w' := by
  have hb0 := (Below.refl w.heap.size w).alloc (Nat.le_refl _) (.cells zero7.toArray 41)
  have hx0 : RowAt (w.alloc (.cells zero7.toArray 41)) w.heap.size zero7 41 := RowAt.made w _ _
  have hD0 : Dead (w.alloc (.cells zero7.toArray 41)) rb l := by
    obtain ⟨v, d, e, hd, hR, hC, h4, hE⟩ := hD
    exact ⟨v, d, e, hd, RowAt.later hR (S := fun _ => False) (.of_below hb0) (RowAt.lt hR) id, hC.under hb0, h4, hE⟩
  have K := take_dead rb l (.slice none 0 0) _ hD0
  unfold EndPost
  obtain ⟨v, d, e, hd, hR, hC, h4, hE⟩ := hD0
  have hpe : parseE l = .error e := by have := hE []; rwa [List.append_nil] at this
  rw [hpe]
  have K2 : Calls Tryz.prog 42 #[.pointer (some ⟨rb, 0, none⟩), .slice none 0 0] (w.alloc (.cells zero7.toArray 41)) fun q w' => w' = w.alloc (.cells zero7.toArray 41) ∧ ∃ v d, d ≤ 2 ∧ q = .returned v ∧ Chain w' d v e.1 e.2 := by
    refine K.mono ?_
    rintro q w' ⟨rfl, v', d', e', k1, k2, k3, k4, k5⟩
    have := k5 []
    rw [List.append_nil, hpe] at this
    cases this
    exact ⟨rfl, v', d', k1, k2, k3⟩
  clear K hD hpe hE hR hC hd
  unfold zero7 shardL at hb0 hx0 K2
  go_enter Tryz.func44, Tryz.ntmps44
  go_upto_region 1 with (fail)
  generalize hw0 : w.alloc _ = w0 at hb0 hx0 K2 ⊢
  clear hw0
  have c0 := hx0.cell (i := 0) rfl
  have c1 := hx0.cell (i := 1) rfl
  have c2 := hx0.cell (i := 2) rfl
  have c3 := hx0.cell (i := 3) rfl
  have c4 := hx0.cell (i := 4) rfl
  have c5 := hx0.cell (i := 5) rfl
  have c6 := hx0.cell (i := 6) rfl
  have f0 := hx0.frozen
  go_wp2_with (first | (go_at_call 42; with_reducible refine K2.mono ?_; rintro q w1 ⟨hw1, v, d, hd, rfl, g2⟩; obtain rfl := hw1.symm; obtain ⟨ty, x, rfl⟩ := g2.iface))
  obtain ⟨hF, hG⟩ := set7 (b0 := .int .i64 0) (b1 := .int .i64 0) (b2 := .int .i64 0) (b3 := .int .i64 0) (b4 := .slice none 0 0) (b5 := .slice none 0 0) (b6 := .slice none 0 0) hx0
  have hC := g2.other hx0 (by decide) (by decide) hG
  refine bodyPost_ret (results_cell_1 (p := 2) (u := 3) rfl _ _ w.heap.size 41 _ (0, 0) _ (by rfl) hF Tryz.underlying41 rfl (by kernel_rfl)) rfl ?_
  exact ⟨(But.of_below hb0).step hG (fun k hk e => by omega), _, d, hd, rfl, hC⟩

/-- A Reader's two cells. -/
def RdrAt (w : World) (xb : Nat) (m r : Option Addr) : Prop := RowAt w xb [.pointer m, .pointer r] 104
theorem ptrInfo : ∃ j, Tryz.prog.info? 104 = some j := Option.isSome_iff_exists.1 (by kernel_rfl)
theorem neq_same (a : Addr) (w : World) : (binOp .neq 64 (.pointer (some a)) (.pointer (some a))).run Tryz.prog w = .ok (.bool false) w := by
  obtain ⟨j, hj⟩ := ptrInfo
  exact Lib.run_neq_ptr_same w a Tryz.underlying64 hj
theorem neq_none (a : Addr) (w : World) : (binOp .neq 64 (.pointer none) (.pointer (some a))).run Tryz.prog w = .ok (.bool true) w := by
  have h : ∀ d : Nat, (Op.equalIn (d + 1) 64 (.pointer none) (.pointer (some a))).run Tryz.prog w = .ok false w := fun d => by
    simp [Op.equalIn, run_underlying Tryz.underlying64]
  simp only [binOp]
  simp [Op.equal, Op.maxDepth, h 9999]
set_option maxHeartbeats 1000000 in
set_option maxRecDepth 100000 in
theorem closed_open (xb rb : Nat) (w : World) (h : RdrAt w xb (some ⟨xb, 0, none⟩) (some ⟨rb, 0, none⟩)) : Calls Tryz.prog 41 #[.pointer (some ⟨xb, 0, none⟩)] w fun q w' => q = .returned (.bool false) ∧ w' = w := by
  have c0 := RowAt.cell h (i := 0) rfl
  have c1 := RowAt.cell h (i := 1) rfl
  have e1 := neq_same ⟨xb, 0, none⟩
  go_enter Tryz.func41, Tryz.ntmps41
  go_wp2
  go_ret
  exact ⟨rfl, rfl⟩
set_option maxHeartbeats 1000000 in
set_option maxRecDepth 100000 in
theorem closed_done (xb : Nat) (w : World) (h : RdrAt w xb (some ⟨xb, 0, none⟩) none) : Calls Tryz.prog 41 #[.pointer (some ⟨xb, 0, none⟩)] w fun q w' => q = .returned (.bool true) ∧ w' = w := by
  have c0 := RowAt.cell h (i := 0) rfl
  have c1 := RowAt.cell h (i := 1) rfl
  have e1 := neq_same ⟨xb, 0, none⟩
  go_enter Tryz.func41, Tryz.ntmps41
  go_wp2
  go_ret
  exact ⟨rfl, rfl⟩
set_option maxHeartbeats 1000000 in
set_option maxRecDepth 100000 in
theorem closed_own (xb : Nat) (r : Option Addr) (w : World) (h : RdrAt w xb none r) : Calls Tryz.prog 41 #[.pointer (some ⟨xb, 0, none⟩)] w fun q w' => q = .returned (.bool true) ∧ w' = w := by
  have c0 := RowAt.cell h (i := 0) rfl
  have c1 := RowAt.cell h (i := 1) rfl
  have e1 := neq_none ⟨xb, 0, none⟩
  go_enter Tryz.func41, Tryz.ntmps41
  go_wp2
  go_ret
  exact ⟨rfl, rfl⟩
set_option maxHeartbeats 1000000 in
set_option maxRecDepth 100000 in
theorem closed_nil (w : World) : Calls Tryz.prog 41 #[.pointer none] w fun q w' => q = .returned (.bool true) ∧ w' = w := by
  go_enter Tryz.func41, Tryz.ntmps41
  go_wp2
  go_ret
  exact ⟨rfl, rfl⟩
/-- What nothing has been read of. -/
def St.zero : St := ⟨0, 0, 0, 0, [], [], [], 0, 0, 0, 0, 0⟩
theorem stok_zero : StOk St.zero [] [] := ⟨fun x => .head rfl rfl rfl, ⟨by simp [St.zero], fun i hi => by simp at hi⟩, ⟨by decide, by decide, by decide, by decide, by decide, by decide⟩, ⟨fun _ => rfl, (fun h => absurd h (by decide)), (fun h => absurd h (by decide))⟩, fun _ => by simp, fun _ => rfl⟩
set_option maxHeartbeats 1000000 in
set_option maxRecDepth 100000 in
theorem newReader_any (w : World) : Calls Tryz.prog 19 #[] w fun q w' => ∃ xb rb, q = .returned (.pointer (some ⟨xb, 0, none⟩)) ∧ RdrAt w' xb (some ⟨xb, 0, none⟩) (some ⟨rb, 0, none⟩) ∧ Live w.heap.size w' rb [] (.slice none 0 0) (.slice none 0 0) ∧ w.heap.size ≤ rb ∧ w.heap.size ≤ xb ∧ Below w.heap.size w w' := by
  go_enter Tryz.func19, Tryz.ntmps19
  go_wp2
  go_ret
  have hb1 := (Below.refl w.heap.size w).alloc (Nat.le_refl _) (.cells (St.zero.rd (.slice none 0 0) (.slice none 0 0) (.slice none 0 0) (.slice none 0 0) .nilIface).cells.toArray 102)
  have hR1 : RdAt (w.alloc (.cells (St.zero.rd (.slice none 0 0) (.slice none 0 0) (.slice none 0 0) (.slice none 0 0) .nilIface).cells.toArray 102)) w.heap.size (St.zero.rd (.slice none 0 0) (.slice none 0 0) (.slice none 0 0) (.slice none 0 0) .nilIface) := RowAt.made w _ _
  have hs1 : (w.alloc (.cells (St.zero.rd (.slice none 0 0) (.slice none 0 0) (.slice none 0 0) (.slice none 0 0) .nilIface).cells.toArray 102)).heap.size = w.heap.size + 1 := by simp
  have key : ∀ w1 : World, Below w.heap.size w w1 → RdAt w1 w.heap.size (St.zero.rd (.slice none 0 0) (.slice none 0 0) (.slice none 0 0) (.slice none 0 0) .nilIface) → w1.heap.size = w.heap.size + 1 →
      RdrAt (w1.alloc (.cells #[.pointer (some ⟨w.heap.size + 1, 0, none⟩), .pointer (some ⟨w.heap.size, 0, none⟩)] 104)) (w.heap.size + 1) (some ⟨w.heap.size + 1, 0, none⟩) (some ⟨w.heap.size, 0, none⟩) ∧ Live w.heap.size (w1.alloc (.cells #[.pointer (some ⟨w.heap.size + 1, 0, none⟩), .pointer (some ⟨w.heap.size, 0, none⟩)] 104)) w.heap.size [] (.slice none 0 0) (.slice none 0 0) ∧ Below w.heap.size w (w1.alloc (.cells #[.pointer (some ⟨w.heap.size + 1, 0, none⟩), .pointer (some ⟨w.heap.size, 0, none⟩)] 104)) := by
    intro w1 h1 h2 h3
    have hb2 := (Below.refl w1.heap.size w1).alloc (Nat.le_refl _) (.cells #[.pointer (some ⟨w.heap.size + 1, 0, none⟩), .pointer (some ⟨w.heap.size, 0, none⟩)] 104)
    have hX := RowAt.made w1 [.pointer (some ⟨w.heap.size + 1, 0, none⟩), .pointer (some ⟨w.heap.size, 0, none⟩)] 104
    rw [h3] at hX
    refine ⟨hX, ⟨St.zero, [], .slice none 0 0, .slice none 0 0, ⟨RowAt.later h2 (S := fun _ => False) (.of_below hb2) (RowAt.lt h2) id, World.ownsRow_nil _ _ _ _, World.ownsRow_nil _ _ _ _, World.ownsRow_nil _ _ _ _, World.ownsRow_nil _ _ _ _, (fun g hg => by cases hg), ?_⟩, stok_zero, rfl⟩, h1.trans (hb2.mono h1.size)⟩
    have := hb2.size
    omega
  obtain ⟨k1, k2, k3⟩ := key _ hb1 hR1 hs1
  exact ⟨w.heap.size + 1, w.heap.size, rfl, k1, k2, Nat.le_refl _, by omega, k3⟩
end Go.Proofs.YtlghjjennhpjeaaGreatDoor

namespace Go.Proofs.YtlghjjennhpjeaaGreatDoor
open Go.RowKit Go.Deep

/-- What a Reader's Reading has come to; the blocks that it may turn. -/
inductive RSt (B : Nat) (w : World) (rb : Nat) (l : List UInt8) (M : Nat → Prop) : Prop
  | live (vC vT : Value) (h : Live B w rb l vC vT) (hM : ∀ k, Mine rb vC vT k → M k)
  | dead (h : Dead w rb l) (hM : M rb)
theorem RSt.more {B : Nat} {w : World} {rb : Nat} {l : List UInt8} {M M' : Nat → Prop} (h : RSt B w rb l M) (hM : ∀ k, M k → M' k) : RSt B w rb l M' := by
  cases h with
  | live vC vT h hm => exact .live vC vT h (fun k hk => hM k (hm k hk))
  | dead h hm => exact .dead h (hM _ hm)
theorem RSt.below {B : Nat} {w w' : World} {rb : Nat} {l : List UInt8} {M : Nat → Prop} (h : RSt B w rb l M) (hb : Below w.heap.size w w') : RSt B w' rb l M := by
  cases h with
  | live vC vT h hm => exact .live vC vT (h.below hb) hm
  | dead h hm =>
    obtain ⟨v, d, e, hd, hR, hC, h4, hE⟩ := h
    exact .dead ⟨v, d, e, hd, RowAt.later hR (S := fun _ => False) (.of_below hb) (RowAt.lt hR) id, hC.under hb, h4, hE⟩ hm
theorem Pt.less {w : World} {M M' : Nat → Prop} {v : Value} {p : List UInt8} (h : Pt w M v p) (hM : ∀ k, M' k → M k) : Pt w M' v p := by
  rcases h with h | ⟨ad, c, e, h1, h2, h3⟩
  · exact .inl h
  · exact .inr ⟨ad, c, e, h1, fun x y => h2 x (hM _ y), h3⟩
def TakeG (B : Nat) (w : World) (rb : Nat) (M : Nat → Prop) (L : List UInt8) (q : Ending) (w' : World) : Prop :=
  But w.heap.size M w w' ∧ (∃ M', RSt B w' rb L M' ∧ ∀ k, M' k → k < w'.heap.size ∧ (k < w.heap.size → M k)) ∧ match parseE L with
  | .error e => ∃ v d, d ≤ 2 ∧ q = .returned v ∧ Chain w' d v e.1 e.2
  | .ok _ => q = .returned .nilIface
section
variable (B rb : Nat) (l p : List UInt8) (M : Nat → Prop) (vp : Value) (w : World) (hR : RSt B w rb l M) (hP : Pt w M vp p) (hlen : l.length + p.length ≤ 4611686018427387904) (hTab : Tab w) (hPow : Pow w) (hB16 : 5 ≤ B) (hrB : B ≤ rb) (a : Addr) (hE : Early w a)
include hR hP hlen hTab hPow hB16 hrB hE in
theorem take_any : Calls Tryz.prog 42 #[.pointer (some ⟨rb, 0, none⟩), vp] w fun q w' => TakeG B w rb M (l ++ p) q w' := by
  cases hR with
  | live vC vT h hm =>
    have hrl : rb < w.heap.size := h.lt.2 _ (.inl rfl)
    refine (take_live B rb l p vC vT vp w h (hP.less hm) hlen hTab hPow hB16 hrB a hE).mono ?_
    rintro q w' ⟨h1, h2⟩
    refine ⟨h1.mono (Nat.le_refl _) hm, ?_⟩
    have sub : ∀ {vC' vT' : Value}, Live B w' rb (l ++ p) vC' vT' → (∀ k, k < w.heap.size → Mine rb vC' vT' k → Mine rb vC vT k) → ∀ k, Mine rb vC' vT' k → k < w'.heap.size ∧ (k < w.heap.size → M k) := fun hl hs k hk => ⟨hl.lt.2 k hk, fun q => hm k (hs k q hk)⟩
    rcases h2 with ⟨v, d, e, k1, k2, k3, k4, k5, k6⟩ | ⟨k0, s, vN, vS, vC', vT', m1, m2, m3, m4, m5, m6⟩
    · rw [k4]
      refine ⟨?_, v, d, k1, k2, k3⟩
      by_cases q4 : e.1 = 4
      · obtain ⟨vC', vT', n1, n2⟩ := k6 q4
        exact ⟨_, .live vC' vT' n1 (fun _ h => h), sub n1 n2⟩
      · exact ⟨(· = rb), .dead (k5 q4) rfl, fun k hk => by subst hk; exact ⟨Nat.lt_of_lt_of_le hrl h1.size, fun _ => hm _ (.inl rfl)⟩⟩
    · rw [m5]
      have hlv : Live B w' rb (l ++ p) vC' vT' := ⟨s, [], vN, vS, m1, m2, m4⟩
      exact ⟨⟨_, .live vC' vT' hlv (fun _ h => h), sub hlv m6⟩, k0⟩
  | dead h hm =>
    refine (take_dead rb l vp w h).mono ?_
    rintro q w' ⟨rfl, v, d, e, k1, k2, k3, k4, k5⟩
    refine ⟨But.refl _ _ _, ?_, ?_⟩
    · obtain ⟨v', d', e', j1, j2, j3, j4, j5⟩ := h
      exact ⟨(· = rb), .dead ⟨v', d', e', j1, j2, j3, j4, fun x => by rw [List.append_assoc]; exact j5 (p ++ x)⟩ rfl, fun k hk => by subst hk; exact ⟨RowAt.lt j2, fun _ => hm⟩⟩
    · rw [k5 p]
      exact ⟨v, d, k1, k2, k3⟩
end
theorem end_any (B rb : Nat) (l : List UInt8) (M : Nat → Prop) (w : World) (hR : RSt B w rb l M) (hlen : l.length ≤ 4611686018427387904) (hTab : Tab w) (hPow : Pow w) (hB16 : 5 ≤ B) (hrB : B ≤ rb) (a : Addr) (hE : Early w a) :
    Calls Tryz.prog 44 #[.pointer (some ⟨rb, 0, none⟩)] w fun q w' => EndPost B w l M q w' := by
  cases hR with
  | live vC vT h hm =>
    refine (end_live B rb l vC vT w hlen hTab hPow hB16 hrB a hE h).mono ?_
    rintro q w' ⟨h1, h2⟩
    exact ⟨h1.mono (Nat.le_refl _) hm, h2⟩
  | dead h hm =>
    refine (end_dead rb l w h).mono ?_
    rintro q w' ⟨h1, h2⟩
    refine ⟨h1.mono (Nat.le_refl _) (fun _ x => x.elim), ?_⟩
    obtain ⟨v, d, e, hd, hR', hC, h4, hE'⟩ := h
    have hpe : parseE l = .error e := by have := hE' []; rwa [List.append_nil] at this
    rw [hpe] at h2 ⊢
    exact h2
/-- What Feed tells of all bytes up to now. -/
def feedE (L : List UInt8) : Nat × Nat := match parseE L with
  | .error e => if e.1 = 4 then (0, 0) else e
  | .ok _ => (0, 0)
def FeedPost (B : Nat) (w : World) (xb rb : Nat) (M : Nat → Prop) (L : List UInt8) (q : Ending) (w' : World) : Prop :=
  q = .returned (.tuple #[.int .i64 ((feedE L).1 : Int), .int .i64 ((feedE L).2 : Int)]) ∧ But w.heap.size M w w' ∧ (∃ M', RSt B w' rb L M' ∧ ∀ k, M' k → k < w'.heap.size ∧ (k < w.heap.size → M k)) ∧ RdrAt w' xb (some ⟨xb, 0, none⟩) (some ⟨rb, 0, none⟩)
section
variable (B xb rb : Nat) (l p : List UInt8) (M : Nat → Prop) (vp : Value) (w : World) (hX : RdrAt w xb (some ⟨xb, 0, none⟩) (some ⟨rb, 0, none⟩)) (hxM : ¬ M xb) (hR : RSt B w rb l M) (hP : Pt w M vp p) (hlen : l.length + p.length ≤ 4611686018427387904) (hTab : Tab w) (hPow : Pow w) (hB16 : 5 ≤ B) (hrB : B ≤ rb) (hM16 : ∀ k, M k → 5 ≤ k) (a : Addr) (hE : Early w a) (hT : ErrT w)
set_option maxHeartbeats 2000000 in
set_option maxRecDepth 100000 in
include hX hxM hR hP hlen hTab hPow hB16 hrB hM16 hE hT in
theorem feed_any : Calls Tryz.prog 20 #[.pointer (some ⟨xb, 0, none⟩), vp] w fun q w' => FeedPost B w xb rb M (l ++ p) q w' := by
  have KC := closed_open xb rb w hX
  have KT := take_any B rb l p M vp w hR hP hlen hTab hPow hB16 hrB a hE
  have c1 := RowAt.cell hX (i := 1) rfl
  have hxl := RowAt.lt hX
  have hsz1 : 1 < w.heap.size := cell_lt hT
  have hEb : ∀ w', But w.heap.size M w w' → Early w' a := fun w' h => hE.but h (by omega) (fun x => by have := hM16 0 x; omega)
  have hTb : ∀ w', But w.heap.size M w w' → ErrT w' := fun w' h => (h.cell (p := ⟨1, 0, none⟩) hsz1 (fun x => by have := hM16 1 x; omega)).trans hT
  have hXb : ∀ w', But w.heap.size M w w' → RdrAt w' xb (some ⟨xb, 0, none⟩) (some ⟨rb, 0, none⟩) := fun w' h => RowAt.later hX h hxl hxM
  unfold TakeG at KT
  unfold FeedPost feedE
  cases hpe : parseE (l ++ p) with
  | error e =>
    rw [hpe] at KT
    simp only at KT ⊢
    by_cases q4 : e.1 = 4
    · simp only [if_pos q4]
      clear hR hP hTab hPow hX
      go_enter Tryz.func20, Tryz.ntmps20
      go_wp2_with (first | (go_at_call 41; (with_reducible refine KC.mono ?_); rintro q w1 ⟨rfl, hw1⟩; obtain rfl := hw1.symm) | (go_at_call 42; (with_reducible refine KT.mono ?_); rintro q w2 ⟨g1, g2, v, d, hd, rfl, g3⟩; have hE2 := hEb _ g1; have ce : w2.cell? ⟨0, 0, none⟩ = _ := hE2; have KI := Is_chain d hd v a e.1 e.2 w2 g3 hE2; rw [decide_eq_true q4] at KI; obtain ⟨ty, x, rfl⟩ := g3.iface) | (go_at_call 43; (with_reducible refine KI.mono ?_); rintro q w3 ⟨rfl, hw3⟩; obtain rfl := hw3.symm))
      go_ret2
      exact ⟨rfl, g1, g2, hXb _ g1⟩
    · simp only [if_neg q4]
      clear hR hP hTab hPow hX
      go_enter Tryz.func20, Tryz.ntmps20
      go_wp2_with (first | (go_at_call 41; (with_reducible refine KC.mono ?_); rintro q w1 ⟨rfl, hw1⟩; obtain rfl := hw1.symm) | (go_at_call 42; (with_reducible refine KT.mono ?_); rintro q w2 ⟨g1, g2, v, d, hd, rfl, g3⟩; have hE2 := hEb _ g1; have ce : w2.cell? ⟨0, 0, none⟩ = _ := hE2; have KI := Is_chain d hd v a e.1 e.2 w2 g3 hE2; rw [decide_eq_false q4] at KI; have KA := answer_chain d hd v e.1 e.2 w2 g3 (hTb _ g1); obtain ⟨ty, x, rfl⟩ := g3.iface) | (go_at_call 43; (with_reducible refine KI.mono ?_); rintro q w3 ⟨rfl, hw3⟩; obtain rfl := hw3.symm) | (go_at_call 11; (with_reducible refine KA.mono ?_); rintro q w4 ⟨rfl, g4⟩))
      go_ret2
      exact ⟨rfl, chain_wrap g1 g4, (by obtain ⟨M', z1, z2⟩ := g2; exact ⟨M', z1.below g4, fun k hk => ⟨Nat.lt_of_lt_of_le (z2 k hk).1 g4.size, (z2 k hk).2⟩⟩), RowAt.later (hXb _ g1) (S := fun _ => False) (.of_below g4) (RowAt.lt (hXb _ g1)) id⟩
  | ok sh =>
    rw [hpe] at KT
    simp only at KT ⊢
    clear hR hP hTab hPow hX
    go_enter Tryz.func20, Tryz.ntmps20
    go_wp2_with (first | (go_at_call 41; (with_reducible refine KC.mono ?_); rintro q w1 ⟨rfl, hw1⟩; obtain rfl := hw1.symm) | (go_at_call 42; (with_reducible refine KT.mono ?_); rintro q w2 ⟨g1, g2, rfl⟩; have hE2 := hEb _ g1; have ce : w2.cell? ⟨0, 0, none⟩ = _ := hE2; have KI := Is_nil a w2; have KA := answer_nil w2) | (go_at_call 43; (with_reducible refine KI.mono ?_); rintro q w3 ⟨rfl, hw3⟩; obtain rfl := hw3.symm) | (go_at_call 11; (with_reducible refine KA.mono ?_); rintro q w4 ⟨rfl, g4⟩))
    go_ret2
    exact ⟨rfl, chain_wrap g1 g4, (by obtain ⟨M', z1, z2⟩ := g2; exact ⟨M', z1.below g4, fun k hk => ⟨Nat.lt_of_lt_of_le (z2 k hk).1 g4.size, (z2 k hk).2⟩⟩), RowAt.later (hXb _ g1) (S := fun _ => False) (.of_below g4) (RowAt.lt (hXb _ g1)) id⟩
end
end Go.Proofs.YtlghjjennhpjeaaGreatDoor

namespace Go.Proofs.YtlghjjennhpjeaaGreatDoor
open Go.RowKit Go.Deep

/-- What Finish tells. -/
def FinPost (B : Nat) (w : World) (xb : Nat) (M : Nat → Prop) (l : List UInt8) (q : Ending) (w' : World) : Prop :=
  But w.heap.size (fun k => M k ∨ k = xb) w w' ∧ RdrAt w' xb (some ⟨xb, 0, none⟩) none ∧ match parseE l with
  | .error e => q = .returned (.tuple #[zeroShard, .int .i64 (e.1 : Int), .int .i64 (e.2 : Int)])
  | .ok s => ∃ vN vS vC, q = .returned (.tuple #[.agg (shardL s.k s.n s.i s.c vN vS vC).toArray, .int .i64 0, .int .i64 0]) ∧
      w'.ownsRow B 9 1 vN s.names.length (strsV s.names) ∧ w'.ownsRow B 3 1 vS s.sizes.length (natV s.sizes) ∧ w'.ownsRow B 5 1 vC s.col.length (u8V s.col)
section
variable (B xb rb : Nat) (l : List UInt8) (M : Nat → Prop) (w : World) (hX : RdrAt w xb (some ⟨xb, 0, none⟩) (some ⟨rb, 0, none⟩)) (hxM : ¬ M xb) (hx16 : 5 ≤ xb) (hR : RSt B w rb l M) (hlen : l.length ≤ 4611686018427387904) (hTab : Tab w) (hPow : Pow w) (hB16 : 5 ≤ B) (hrB : B ≤ rb) (hM16 : ∀ k, M k → 5 ≤ k) (hMl : ∀ k, M k → k < w.heap.size) (a : Addr) (hE : Early w a) (hT : ErrT w)
set_option maxHeartbeats 2000000 in
set_option maxRecDepth 100000 in
include hX hxM hx16 hR hlen hTab hPow hB16 hrB hM16 hMl hE hT in
theorem finish_any : Calls Tryz.prog 21 #[.pointer (some ⟨xb, 0, none⟩)] w fun q w' => FinPost B w xb M l q w' := by
  have hb0 := (Below.refl w.heap.size w).alloc (Nat.le_refl _) (.cells zero7.toArray 41)
  have hx0 : RowAt (w.alloc (.cells zero7.toArray 41)) w.heap.size zero7 41 := RowAt.made w _ _
  have hxl := RowAt.lt hX
  have hsz2 : 1 < w.heap.size := cell_lt hT
  have h16 : 5 ≤ w.heap.size := by
    cases hR with
    | live vC vT h hm => have := h.lt.1; omega
    | dead h hm => have := hM16 _ hm; have := hMl _ hm; omega
  have hX0 : RdrAt (w.alloc (.cells zero7.toArray 41)) xb (some ⟨xb, 0, none⟩) (some ⟨rb, 0, none⟩) := RowAt.later hX (S := fun _ => False) (.of_below hb0) hxl id
  have KE := end_any B rb l M _ (hR.below hb0) hlen (hTab.below hb0 (by omega)) (hPow.belows hb0 h16) hB16 hrB a (hE.belows hb0)
  have KC := closed_open xb rb _ hX0
  have hT0 : ErrT (w.alloc (.cells zero7.toArray 41)) := hT.below hb0 hsz2
  have hnb : ¬ M w.heap.size := fun h => by have := hMl _ h; omega
  unfold zero7 shardL at hb0 hx0 KE KC hX0 hT0
  unfold EndPost at KE
  unfold FinPost
  clear hR hTab hPow hX hT hE
  cases hpe : parseE l with
  | error e =>
    rw [hpe] at KE
    simp only at KE ⊢
    go_enter Tryz.func21, Tryz.ntmps21
    go_upto_region 1 with (fail)
    generalize hw0 : w.alloc _ = w0 at hb0 hx0 KE KC hX0 hT0 ⊢
    clear hw0
    have hsz0 : w.heap.size < w0.heap.size := hx0.lt
    have c1 := RowAt.cell hX0 (i := 1) rfl
    go_upto_region 4 with (first | (go_at_call 41; (with_reducible refine KC.mono ?_); rintro q w1 ⟨rfl, hw1⟩; obtain rfl := hw1.symm) | (go_at_call 44; (with_reducible refine KE.mono ?_); rintro q w2 ⟨g1, v, d, hd, rfl, g2⟩; unfold zeroShard shardL; obtain ⟨ty, x, rfl⟩ := g2.iface))
    have hb3 := (Below.refl w2.heap.size w2).alloc (Nat.le_refl _) (.cells ([.int .i64 0, .int .i64 0, .int .i64 0, .int .i64 0, .slice none 0 0, .slice none 0 0, .slice none 0 0] : List Value).toArray 41)
    have hs3 : RowAt (w2.alloc (.cells ([.int .i64 0, .int .i64 0, .int .i64 0, .int .i64 0, .slice none 0 0, .slice none 0 0, .slice none 0 0] : List Value).toArray 41)) w2.heap.size [.int .i64 0, .int .i64 0, .int .i64 0, .int .i64 0, .slice none 0 0, .slice none 0 0, .slice none 0 0] 41 := RowAt.made w2 _ _
    generalize hw3 : w2.alloc _ = w3 at hb3 hs3 ⊢
    clear hw3
    have hx2 := hx0.later g1 hsz0 hnb
    have hx3 := hx2.later (S := fun _ => False) (.of_below hb3) hx2.lt id
    have hX2 : RdrAt w2 xb _ _ := RowAt.later hX0 g1 (RowAt.lt hX0) hxM
    have hX3 : RdrAt w3 xb _ _ := RowAt.later hX2 (S := fun _ => False) (.of_below hb3) (RowAt.lt hX2) id
    have hT2 : ErrT w2 := (g1.cell (p := ⟨1, 0, none⟩) (by show 1 < _; omega) (fun x => by have := hM16 1 x; omega)).trans hT0
    have hT3 : ErrT w3 := hT2.below hb3 (by have := g1.size; omega)
    have hC3 := g2.under hb3
    have hB3 : But w.heap.size M w w3 := chain_wrap ((But.of_below hb0).step g1 (fun _ _ x => x)) hb3
    have d1 := RowAt.cell hX3 (i := 1) rfl
    have f1 := RowAt.frozen hX3 1
    go_upto_region 5 with (fail)
    have hX4 : RdrAt (w3.setCell ⟨xb, 1, none⟩ (.pointer none)) xb (some ⟨xb, 0, none⟩) none := RowAt.set hX3 1 (.pointer none)
    have hB4 : But w3.heap.size (· = xb) w3 (w3.setCell ⟨xb, 1, none⟩ (.pointer none)) := (But.refl w3.heap.size (· = xb) w3).setCell (p := ⟨xb, 1, none⟩) (.inr rfl) (.pointer none)
    clear d1 f1 c1
    generalize w3.setCell ⟨xb, 1, none⟩ (.pointer none) = w4 at hX4 hB4 ⊢
    have hx4 := hx3.later hB4 hx3.lt (by omega)
    have hs4 := hs3.later hB4 hs3.lt (by have := g1.size; omega)
    have hT4 : ErrT w4 := (hB4.cell (p := ⟨1, 0, none⟩) (by have := hx3.lt; show 1 < _; omega) (by show ¬ 1 = xb; omega)).trans hT3
    have KA := answer_chain d hd _ e.1 e.2 w4 (hC3.other hX3 (by decide) (by decide) hB4) hT4
    go_upto_region 6 with (first | (go_at_call 11; (with_reducible refine KA.mono ?_); rintro q w5 ⟨rfl, g5⟩))
    have hx5 := hx4.later (S := fun _ => False) (.of_below g5) hx4.lt id
    have hs5 := hs4.later (S := fun _ => False) (.of_below g5) hs4.lt id
    have hX5 : RdrAt w5 xb _ _ := RowAt.later hX4 (S := fun _ => False) (.of_below g5) (RowAt.lt hX4) id
    have hB5 : But w.heap.size (fun k => M k ∨ k = xb) w w5 := chain_wrap ((hB3.mono (Nat.le_refl _) (fun _ x => .inl x)).step hB4 (fun _ _ x => .inr x)) g5
    have c0 := hx5.cell (i := 0) rfl
    have c1 := hx5.cell (i := 1) rfl
    have c2 := hx5.cell (i := 2) rfl
    have c3 := hx5.cell (i := 3) rfl
    have c4 := hx5.cell (i := 4) rfl
    have c5 := hx5.cell (i := 5) rfl
    have c6 := hx5.cell (i := 6) rfl
    have f0 := hx5.frozen
    have d0 := hs5.cell (i := 0) rfl
    have d1 := hs5.cell (i := 1) rfl
    have d2 := hs5.cell (i := 2) rfl
    have d3 := hs5.cell (i := 3) rfl
    have d4 := hs5.cell (i := 4) rfl
    have d5 := hs5.cell (i := 5) rfl
    have d6 := hs5.cell (i := 6) rfl
    go_wp2
    obtain ⟨hF, hG⟩ := set7 (b0 := .int .i64 0) (b1 := .int .i64 0) (b2 := .int .i64 0) (b3 := .int .i64 0) (b4 := .slice none 0 0) (b5 := .slice none 0 0) (b6 := .slice none 0 0) hx5
    have hX6 : RdrAt _ xb (some ⟨xb, 0, none⟩) none := RowAt.later hX5 hG (RowAt.lt hX5) (by omega)
    refine bodyPost_ret (results_cell_2 (p := 2) (u := 3) (t := 4) rfl _ _ w.heap.size 41 _ (0, 0) _ (by rfl) hF Tryz.underlying41 rfl (by kernel_rfl)) rfl ?_
    exact ⟨hB5.step hG (fun k hk e => by omega), hX6, rfl⟩
  | ok sh =>
    rw [hpe] at KE
    simp only at KE ⊢
    go_enter Tryz.func21, Tryz.ntmps21
    go_upto_region 1 with (fail)
    generalize hw0 : w.alloc _ = w0 at hb0 hx0 KE KC hX0 hT0 ⊢
    clear hw0
    have hsz0 : w.heap.size < w0.heap.size := hx0.lt
    have c1 := RowAt.cell hX0 (i := 1) rfl
    go_upto_region 4 with (first | (go_at_call 41; (with_reducible refine KC.mono ?_); rintro q w1 ⟨rfl, hw1⟩; obtain rfl := hw1.symm) | (go_at_call 44; (with_reducible refine KE.mono ?_); rintro q w2 ⟨g1, vN, vS, vC, rfl, n1, n2, n3⟩; unfold shardL; obtain ⟨bn, cn, rfl⟩ := owns_slice n1; obtain ⟨bz, cz, rfl⟩ := owns_slice n2; obtain ⟨bc, cc, rfl⟩ := owns_slice n3))
    have hb3 := (Below.refl w2.heap.size w2).alloc (Nat.le_refl _) (.cells ([.int .i64 (sh.k : Int), .int .i64 (sh.n : Int), .int .i64 (sh.i : Int), .int .i64 (sh.c : Int), .slice bn sh.names.length cn, .slice bz sh.sizes.length cz, .slice bc sh.col.length cc] : List Value).toArray 41)
    have hs3 : RowAt (w2.alloc (.cells ([.int .i64 (sh.k : Int), .int .i64 (sh.n : Int), .int .i64 (sh.i : Int), .int .i64 (sh.c : Int), .slice bn sh.names.length cn, .slice bz sh.sizes.length cz, .slice bc sh.col.length cc] : List Value).toArray 41)) w2.heap.size [.int .i64 (sh.k : Int), .int .i64 (sh.n : Int), .int .i64 (sh.i : Int), .int .i64 (sh.c : Int), .slice bn sh.names.length cn, .slice bz sh.sizes.length cz, .slice bc sh.col.length cc] 41 := RowAt.made w2 _ _
    generalize hw3 : w2.alloc _ = w3 at hb3 hs3 ⊢
    clear hw3
    have hx2 := hx0.later g1 hsz0 hnb
    have hx3 := hx2.later (S := fun _ => False) (.of_below hb3) hx2.lt id
    have hX2 : RdrAt w2 xb _ _ := RowAt.later hX0 g1 (RowAt.lt hX0) hxM
    have hX3 : RdrAt w3 xb _ _ := RowAt.later hX2 (S := fun _ => False) (.of_below hb3) (RowAt.lt hX2) id
    have hT2 : ErrT w2 := (g1.cell (p := ⟨1, 0, none⟩) (by show 1 < _; omega) (fun x => by have := hM16 1 x; omega)).trans hT0
    have hT3 : ErrT w3 := hT2.below hb3 (by have := g1.size; omega)
    have o1 := fun {e n : Nat} {v : Value} {xs : List Value} (h : w2.ownsRow B e 1 v n xs) => owns_later (w' := w3) h (fun g hg => hb3.block g (h.lt g hg).2)
    have hB3 : But w.heap.size M w w3 := chain_wrap ((But.of_below hb0).step g1 (fun _ _ x => x)) hb3
    have d1 := RowAt.cell hX3 (i := 1) rfl
    have f1 := RowAt.frozen hX3 1
    go_upto_region 5 with (fail)
    have hX4 : RdrAt (w3.setCell ⟨xb, 1, none⟩ (.pointer none)) xb (some ⟨xb, 0, none⟩) none := RowAt.set hX3 1 (.pointer none)
    have hB4 : But w3.heap.size (· = xb) w3 (w3.setCell ⟨xb, 1, none⟩ (.pointer none)) := (But.refl w3.heap.size (· = xb) w3).setCell (p := ⟨xb, 1, none⟩) (.inr rfl) (.pointer none)
    clear d1 f1 c1
    generalize w3.setCell ⟨xb, 1, none⟩ (.pointer none) = w4 at hX4 hB4 ⊢
    have hx4 := hx3.later hB4 hx3.lt (by omega)
    have hs4 := hs3.later hB4 hs3.lt (by have := g1.size; omega)
    have hT4 : ErrT w4 := (hB4.cell (p := ⟨1, 0, none⟩) (by have := hx3.lt; show 1 < _; omega) (by show ¬ 1 = xb; omega)).trans hT3
    have KA := answer_nil w4
    go_upto_region 6 with (first | (go_at_call 11; (with_reducible refine KA.mono ?_); rintro q w5 ⟨rfl, g5⟩))
    have hx5 := hx4.later (S := fun _ => False) (.of_below g5) hx4.lt id
    have hs5 := hs4.later (S := fun _ => False) (.of_below g5) hs4.lt id
    have hX5 : RdrAt w5 xb _ _ := RowAt.later hX4 (S := fun _ => False) (.of_below g5) (RowAt.lt hX4) id
    have hB5 : But w.heap.size (fun k => M k ∨ k = xb) w w5 := chain_wrap ((hB3.mono (Nat.le_refl _) (fun _ x => .inl x)).step hB4 (fun _ _ x => .inr x)) g5
    have c0 := hx5.cell (i := 0) rfl
    have c1 := hx5.cell (i := 1) rfl
    have c2 := hx5.cell (i := 2) rfl
    have c3 := hx5.cell (i := 3) rfl
    have c4 := hx5.cell (i := 4) rfl
    have c5 := hx5.cell (i := 5) rfl
    have c6 := hx5.cell (i := 6) rfl
    have f0 := hx5.frozen
    have d0 := hs5.cell (i := 0) rfl
    have d1 := hs5.cell (i := 1) rfl
    have d2 := hs5.cell (i := 2) rfl
    have d3 := hs5.cell (i := 3) rfl
    have d4 := hs5.cell (i := 4) rfl
    have d5 := hs5.cell (i := 5) rfl
    have d6 := hs5.cell (i := 6) rfl
    go_wp2
    obtain ⟨hF, hG⟩ := set7 (b0 := .int .i64 (sh.k : Int)) (b1 := .int .i64 (sh.n : Int)) (b2 := .int .i64 (sh.i : Int)) (b3 := .int .i64 (sh.c : Int)) (b4 := .slice bn sh.names.length cn) (b5 := .slice bz sh.sizes.length cz) (b6 := .slice bc sh.col.length cc) hx5
    have hX6 : RdrAt _ xb (some ⟨xb, 0, none⟩) none := RowAt.later hX5 hG (RowAt.lt hX5) (by omega)
    refine bodyPost_ret (results_cell_2 (p := 2) (u := 3) (t := 4) rfl _ _ w.heap.size 41 _ (0, 0) _ (by rfl) hF Tryz.underlying41 rfl (by kernel_rfl)) rfl ?_
    have o2 : ∀ {e n : Nat} {v : Value} {xs : List Value}, w2.ownsRow B e 1 v n xs → e ≠ 104 → e ≠ 41 → World.ownsRow _ B e 1 v n xs := fun h h1 h2 => owns_other hx5 hG (by
      have z1 := owns_other hX3 hB4 (o1 h) h1
      exact owns_later z1 (fun g hg => g5.block g (z1.lt g hg).2)) h2
    exact ⟨hB5.step hG (fun k hk e => by omega), hX6, _, _, _, rfl, o2 n1 (by decide) (by decide), o2 n2 (by decide) (by decide), o2 n3 (by decide) (by decide)⟩
end
end Go.Proofs.YtlghjjennhpjeaaGreatDoor

namespace Go.Proofs.YtlghjjennhpjeaaGreatDoor
open Go.RowKit Go.Deep

section
variable (p : List UInt8) (vp : Value) (w : World) (hP : Pt w (fun _ => False) vp p) (hlen : p.length ≤ 4611686018427387904) (hTab : Tab w) (hPow : Pow w) (h16 : 5 ≤ w.heap.size) (a : Addr) (hE : Early w a) (hT : ErrT w)
set_option maxHeartbeats 2000000 in
set_option maxRecDepth 100000 in
include hP hlen hTab hPow h16 hE hT in
theorem parseP_any : Calls Tryz.prog 9 #[vp] w fun q w' => ParsePost p w q w' := by
  have hb0 := (Below.refl w.heap.size w).alloc (Nat.le_refl _) (.cells zero7.toArray 41)
  have hx0 : RowAt (w.alloc (.cells zero7.toArray 41)) w.heap.size zero7 41 := RowAt.made w _ _
  unfold zero7 shardL at hb0 hx0
  unfold ParsePost
  cases hpe : parseE p with
  | error e =>
    simp only
    go_enter Tryz.func9, Tryz.ntmps9
    go_upto_region 1 with (fail)
    generalize hw0 : w.alloc _ = w0 at hb0 hx0 ⊢
    clear hw0
    have hT0 := hTab.below hb0 (by omega)
    have hP0 := hPow.belows hb0 h16
    have hE0 := hE.belows hb0
    have hR0 : ErrT w0 := hT.below hb0 (by omega)
    have hPt0 : Pt w0 (fun _ => False) vp p := hP.later (S := fun _ => False) (.of_below hb0) (fun _ x => x) (fun _ _ x => x)
    have KN := newReader_any w0
    have hs0 : w.heap.size < w0.heap.size := hx0.lt
    go_upto_region 2 with (first | (go_at_call 19; (with_reducible refine KN.mono ?_); rintro q w1 ⟨xb, rb, rfl, n1, n2, n3, n4, n5⟩))
    have hx1 := hx0.later (S := fun _ => False) (.of_below n5) hx0.lt id
    have hn5 := n5.size
    have hPt1 : Pt w1 (Mine rb (.slice none 0 0) (.slice none 0 0)) vp p := hPt0.later (S := fun _ => False) (.of_below n5) (fun _ x => x) (fun k hk x => by
      rcases x with h | h | h
      · omega
      · cases h
      · cases h)
    have hMr : ∀ k, Mine rb (.slice none 0 0) (.slice none 0 0) k → k = rb := fun k x => by
      rcases x with h | h | h
      · exact h
      · cases h
      · cases h
    have hxr : xb ≠ rb := by
      obtain ⟨s, t, vN, vS, I, _⟩ := n2
      exact row_other n1 I.rd (by decide)
    have hlt1 := n2.lt
    have KF := feed_any w0.heap.size xb rb [] p (Mine rb (.slice none 0 0) (.slice none 0 0)) vp w1 n1 (fun h => hxr (hMr _ h)) (.live _ _ n2 (fun _ h => h)) hPt1 (by simpa using hlen) (hT0.below n5 (by omega)) (hP0.belows n5 (by omega)) (by omega) n3 (fun k h => by have := hMr k h; omega) a (hE0.belows n5) (hR0.below n5 (by omega))
    rw [List.nil_append] at KF
    unfold FeedPost at KF
    go_upto_region 3 with (first | (go_at_call 20; (with_reducible refine KF.mono ?_); rintro q w2 ⟨rfl, g1, ⟨M', g2, g3⟩, g4⟩))
    have hM16 : ∀ k, M' k → 5 ≤ k := fun k h => by
      rcases Nat.lt_or_ge k w1.heap.size with q | q
      · have := hMr k ((g3 k h).2 q); omega
      · omega
    have hxl1 := RowAt.lt n1
    have hxM : ¬ M' xb := fun h => hxr (hMr _ ((g3 xb h).2 hxl1))
    have hbM : ¬ M' w.heap.size := fun h => by have := hMr _ ((g3 _ h).2 (by omega)); omega
    have hx2 := hx1.later g1 hx1.lt (fun h => by have := hMr _ h; omega)
    have hnM : ∀ k, k < 5 → ¬ Mine rb (.slice none 0 0) (.slice none 0 0) k := fun k hk h => by have := hMr k h; omega
    have KI := finish_any w0.heap.size xb rb p M' w2 g4 hxM (by omega) g2 hlen ((hT0.below n5 (by omega)).but g1 (by omega) (hnM 3 (by omega))) ((hP0.belows n5 (by omega)).but g1 (fun k hk => ⟨by omega, hnM k hk⟩)) (by omega) n3 hM16 (fun k h => (g3 k h).1) a ((hE0.belows n5).but g1 (by omega) (hnM 0 (by omega))) ((g1.cell (p := ⟨1, 0, none⟩) (by show 1 < _; omega) (hnM 1 (by omega))).trans (hR0.below n5 (by omega)))
    unfold FinPost at KI
    rw [hpe] at KI
    simp only at KI
    have hB2 : But w.heap.size (fun _ => False) w w2 := (((But.of_below (hb0.trans (n5.mono (by omega)))) : But w.heap.size (fun _ => False) w w1)).step g1 (fun k hk h => by have := hMr k h; omega)
    have hxw : ¬ w.heap.size = xb := by omega
    clear KF KN hT0 hP0 hE0 hR0 hPt0 hPt1 n2
    go_wp2_with (first | (go_at_call 21; (with_reducible refine KI.mono ?_); rintro q w3 ⟨k1, k2, rfl⟩; unfold zeroShard shardL; have hx3 := hx2.later k1 hx2.lt (fun x => x.elim hbM hxw); have c0 := hx3.cell (i := 0) rfl; have c1 := hx3.cell (i := 1) rfl; have c2 := hx3.cell (i := 2) rfl; have c3 := hx3.cell (i := 3) rfl; have c4 := hx3.cell (i := 4) rfl; have c5 := hx3.cell (i := 5) rfl; have c6 := hx3.cell (i := 6) rfl; have f0 := hx3.frozen))
    obtain ⟨hF, hG⟩ := set7 (b0 := .int .i64 0) (b1 := .int .i64 0) (b2 := .int .i64 0) (b3 := .int .i64 0) (b4 := .slice none 0 0) (b5 := .slice none 0 0) (b6 := .slice none 0 0) hx3
    have hB3 : But w.heap.size (fun _ => False) w w3 := hB2.step k1 (fun k hk h => by
      rcases h with h | h
      · have := hMr k ((g3 k h).2 (by omega)); omega
      · omega)
    have hBB := (hB3.step hG (fun k hk e => by omega)).below (fun _ _ => id)
    refine bodyPost_ret (results_cell_2 (p := 2) (u := 3) (t := 4) rfl _ _ w.heap.size 41 _ (0, 0) _ (by rfl) hF Tryz.underlying41 rfl (by kernel_rfl)) rfl ?_
    exact ⟨hBB, rfl⟩
  | ok sh =>
    simp only
    go_enter Tryz.func9, Tryz.ntmps9
    go_upto_region 1 with (fail)
    generalize hw0 : w.alloc _ = w0 at hb0 hx0 ⊢
    clear hw0
    have hT0 := hTab.below hb0 (by omega)
    have hP0 := hPow.belows hb0 h16
    have hE0 := hE.belows hb0
    have hR0 : ErrT w0 := hT.below hb0 (by omega)
    have hPt0 : Pt w0 (fun _ => False) vp p := hP.later (S := fun _ => False) (.of_below hb0) (fun _ x => x) (fun _ _ x => x)
    have KN := newReader_any w0
    have hs0 : w.heap.size < w0.heap.size := hx0.lt
    go_upto_region 2 with (first | (go_at_call 19; (with_reducible refine KN.mono ?_); rintro q w1 ⟨xb, rb, rfl, n1, n2, n3, n4, n5⟩))
    have hx1 := hx0.later (S := fun _ => False) (.of_below n5) hx0.lt id
    have hn5 := n5.size
    have hPt1 : Pt w1 (Mine rb (.slice none 0 0) (.slice none 0 0)) vp p := hPt0.later (S := fun _ => False) (.of_below n5) (fun _ x => x) (fun k hk x => by
      rcases x with h | h | h
      · omega
      · cases h
      · cases h)
    have hMr : ∀ k, Mine rb (.slice none 0 0) (.slice none 0 0) k → k = rb := fun k x => by
      rcases x with h | h | h
      · exact h
      · cases h
      · cases h
    have hxr : xb ≠ rb := by
      obtain ⟨s, t, vN, vS, I, _⟩ := n2
      exact row_other n1 I.rd (by decide)
    have hlt1 := n2.lt
    have KF := feed_any w0.heap.size xb rb [] p (Mine rb (.slice none 0 0) (.slice none 0 0)) vp w1 n1 (fun h => hxr (hMr _ h)) (.live _ _ n2 (fun _ h => h)) hPt1 (by simpa using hlen) (hT0.below n5 (by omega)) (hP0.belows n5 (by omega)) (by omega) n3 (fun k h => by have := hMr k h; omega) a (hE0.belows n5) (hR0.below n5 (by omega))
    rw [List.nil_append] at KF
    unfold FeedPost at KF
    go_upto_region 3 with (first | (go_at_call 20; (with_reducible refine KF.mono ?_); rintro q w2 ⟨rfl, g1, ⟨M', g2, g3⟩, g4⟩))
    have hM16 : ∀ k, M' k → 5 ≤ k := fun k h => by
      rcases Nat.lt_or_ge k w1.heap.size with q | q
      · have := hMr k ((g3 k h).2 q); omega
      · omega
    have hxl1 := RowAt.lt n1
    have hxM : ¬ M' xb := fun h => hxr (hMr _ ((g3 xb h).2 hxl1))
    have hbM : ¬ M' w.heap.size := fun h => by have := hMr _ ((g3 _ h).2 (by omega)); omega
    have hx2 := hx1.later g1 hx1.lt (fun h => by have := hMr _ h; omega)
    have hnM : ∀ k, k < 5 → ¬ Mine rb (.slice none 0 0) (.slice none 0 0) k := fun k hk h => by have := hMr k h; omega
    have KI := finish_any w0.heap.size xb rb p M' w2 g4 hxM (by omega) g2 hlen ((hT0.below n5 (by omega)).but g1 (by omega) (hnM 3 (by omega))) ((hP0.belows n5 (by omega)).but g1 (fun k hk => ⟨by omega, hnM k hk⟩)) (by omega) n3 hM16 (fun k h => (g3 k h).1) a ((hE0.belows n5).but g1 (by omega) (hnM 0 (by omega))) ((g1.cell (p := ⟨1, 0, none⟩) (by show 1 < _; omega) (hnM 1 (by omega))).trans (hR0.below n5 (by omega)))
    unfold FinPost at KI
    rw [hpe] at KI
    simp only at KI
    have hB2 : But w.heap.size (fun _ => False) w w2 := (((But.of_below (hb0.trans (n5.mono (by omega)))) : But w.heap.size (fun _ => False) w w1)).step g1 (fun k hk h => by have := hMr k h; omega)
    have hxw : ¬ w.heap.size = xb := by omega
    clear KF KN hT0 hP0 hE0 hR0 hPt0 hPt1 n2
    go_wp2_with (first | (go_at_call 21; (with_reducible refine KI.mono ?_); rintro q w3 ⟨k1, k2, vN, vS, vC, rfl, o1, o2, o3⟩; unfold shardL; obtain ⟨bn, cn, rfl⟩ := owns_slice o1; obtain ⟨bz, cz, rfl⟩ := owns_slice o2; obtain ⟨bc, cc, rfl⟩ := owns_slice o3; have hx3 := hx2.later k1 hx2.lt (fun x => x.elim hbM hxw); have c0 := hx3.cell (i := 0) rfl; have c1 := hx3.cell (i := 1) rfl; have c2 := hx3.cell (i := 2) rfl; have c3 := hx3.cell (i := 3) rfl; have c4 := hx3.cell (i := 4) rfl; have c5 := hx3.cell (i := 5) rfl; have c6 := hx3.cell (i := 6) rfl; have f0 := hx3.frozen))
    obtain ⟨hF, hG⟩ := set7 (b0 := .int .i64 (sh.k : Int)) (b1 := .int .i64 (sh.n : Int)) (b2 := .int .i64 (sh.i : Int)) (b3 := .int .i64 (sh.c : Int)) (b4 := .slice bn sh.names.length cn) (b5 := .slice bz sh.sizes.length cz) (b6 := .slice bc sh.col.length cc) hx3
    have hB3 : But w.heap.size (fun _ => False) w w3 := hB2.step k1 (fun k hk h => by
      rcases h with h | h
      · have := hMr k ((g3 k h).2 (by omega)); omega
      · omega)
    have hBB := (hB3.step hG (fun k hk e => by omega)).below (fun _ _ => id)
    refine bodyPost_ret (results_cell_2 (p := 2) (u := 3) (t := 4) rfl _ _ w.heap.size 41 _ (0, 0) _ (by rfl) hF Tryz.underlying41 rfl (by kernel_rfl)) rfl ?_
    exact ⟨hBB, _, _, _, rfl, owns_base (owns_other hx3 hG o1 (by decide)) (by omega), owns_base (owns_other hx3 hG o2 (by decide)) (by omega), owns_base (owns_other hx3 hG o3 (by decide)) (by omega)⟩
end
end Go.Proofs.YtlghjjennhpjeaaGreatDoor

namespace Go.Proofs.YtlghjjennhpjeaaGreatDoor
open Go.RowKit Go.Deep

theorem owns_lies {B e n : Nat} {w : World} {v : Value} {xs : List Value} (h : w.ownsRow B e 1 v n xs) (hl : xs.length = n) : Lies w v xs := by
  have h2 := h
  rcases h.2 with ⟨e1, h0⟩ | ⟨g, c, cur, e1, hg, hh, hc, _⟩
  · subst e1
    have : xs = [] := List.length_eq_zero_iff.1 (hl.trans h0)
    subst this
    exact ⟨none, 0, rfl, by simp, fun j u hj => by simp at hj⟩
  · refine ⟨some ⟨g, 0, none⟩, c, by rw [e1, hl], by rw [hl]; exact hc, fun j u hj => ⟨g, 0, rfl, ?_⟩⟩
    have hj1 : j < n := hl ▸ (List.getElem?_eq_some_iff.1 hj).1
    rw [e1] at h2
    have := World.ownsRow.cellAt h2 j (by omega)
    rw [Nat.zero_add, this]
    exact hj
theorem strV_length (l : List (List UInt8)) : (strsV l).length = l.length := by simp [strsV]

theorem Lies.str {w : World} {v : Value} {l : List UInt8} (h : Lies w v (u8V l)) : (convert 24 9 v).run Tryz.prog w = .ok (.string ⟨l.toArray⟩) w := by
  obtain ⟨ba, cap, rfl, hcap, hc⟩ := h
  rw [u8V_length] at hcap ⊢
  by_cases h0 : l = []
  · subst h0
    show (convert 24 9 (.slice ba 0 cap)).run Tryz.prog w = _
    rw [run_convert_bytes_string w 24 9 5 ba 0 cap Tryz.underlying24 Tryz.underlying5 Tryz.underlying9]
    cases ba <;> rfl
  · have hp : 0 < l.length := List.length_pos_iff.2 h0
    obtain ⟨b, off, rfl, _⟩ := hc 0 _ (u8V_get hp)
    refine run_convert_bytes_back w 24 9 5 ⟨b, off, none⟩ cap l Tryz.underlying24 Tryz.underlying5 Tryz.underlying9 (fun j hj => ?_)
    obtain ⟨b', off', e, h2⟩ := hc j _ (u8V_get hj)
    cases e
    rw [add_off, h2]
    simp [bAt, List.getD_eq_getElem?_getD, List.getElem?_eq_getElem hj]
set_option maxHeartbeats 400000 in
set_option maxRecDepth 100000 in
theorem sameB_any (va vb : Value) (l : List UInt8) (w : World) (ha : Lies w va (u8V l)) (hb : Lies w vb (u8V l)) :
    Calls Tryz.prog 18 #[va, vb] w fun e w' => e = .returned (.bool true) ∧ w' = w := by
  have h1 := ha.str
  have h2 := hb.str
  clear ha hb
  go_enter Tryz.func18, Tryz.ntmps18
  go_wp2
  go_ret
  exact ⟨ret_bool' (by simp), rfl⟩
set_option maxHeartbeats 400000 in
set_option maxRecDepth 100000 in
theorem numL_any (x : Int) (w : World) :
    Calls Tryz.prog 7 #[.int .i64 x] w fun e w' => e = .returned (.int .i64 x) ∧ w' = w := by
  go_enter Tryz.func7, Tryz.ntmps7
  go_wp2
  go_ret
  exact ⟨rfl, rfl⟩

/-- Two shards that tell the same are found the same. -/
structure Both (w : World) (s : Shd) (vN vS vC : Value) : Prop where
  n : Lies w vN (strsV s.names)
  z : Lies w vS (natV s.sizes)
  c : Lies w vC (u8V s.col)
theorem Both.below {w w' : World} {s : Shd} {vN vS vC : Value} (h : Both w s vN vS vC) (hb : Below w.heap.size w w') : Both w' s vN vS vC := ⟨h.n.below hb, h.z.below hb, h.c.below hb⟩

end Go.Proofs.YtlghjjennhpjeaaGreatDoor

/-
  bytes.Equal, bytes.Clone.
-/
namespace Go.Proofs.YtlghjjennhpjeaaGreatDoor
open Go.RowKit Go.Deep

set_option maxHeartbeats 400000 in
theorem eqBytes_any (a b : List UInt8) (va vb : Value) (w : World) (ha : Lies w va (u8V a)) (hb : Lies w vb (u8V b)) :
    Calls Tryz.prog 54 #[va, vb] w fun r w' => r = .returned (.bool (a == b)) ∧ w' = w := by
  have s1 := ha.str
  have s2 := hb.str
  obtain ⟨pa, ca, rfl⟩ := ha.len
  obtain ⟨pb, cb, rfl⟩ := hb.len
  go_enter Tryz.func54, Tryz.ntmps54
  go_wp2
  go_ret
  exact ⟨rfl, rfl⟩
set_option maxHeartbeats 2000000 in
set_option maxRecDepth 100000 in
theorem clone_any (l : List UInt8) (v : Value) (w : World) (h : Lies w v (u8V l)) (hl : l.length ≤ 1048576) :
    Calls Tryz.prog 55 #[v] w fun r w' => ∃ v', r = .returned v' ∧ w'.ownsRow w.heap.size 5 1 v' l.length (u8V l) ∧ Below w.heap.size w w' := by
  obtain ⟨i0, hi0, hz0, hz1, hz2⟩ := info_parts infoB8
  obtain ⟨ba, cap, rfl, hcap, hc⟩ := h
  have el : (u8V l).length = l.length := by simp [u8V]
  have q22 : ∀ (w : World) (a : Option Addr) (n c n' c' : Nat), (binOp .eql 24 (.slice a n c) (.slice none n' c')).run Tryz.prog w = .ok (.bool a.isNone) w := fun w a n c n' c' => Lib.run_eql_slice_nil w _ _ a n c n' c' Tryz.underlying24
  rw [el] at hcap ⊢
  cases ba with
  | none =>
    obtain rfl : l = [] := by
      rcases l with _ | ⟨x, l⟩
      · rfl
      · obtain ⟨b, off, e, _⟩ := hc 0 _ rfl
        cases e
    go_enter Tryz.func55, Tryz.ntmps55
    go_wp2
    go_ret
    exact ⟨_, rfl, World.ownsRow_nil _ _ _ _, Below.refl _ _⟩
  | some ad =>
    have b1 : Below w.heap.size w (w.alloc (.cells #[] 5)) := (Below.refl _ _).alloc (Nat.le_refl _) _
    have own0 : (w.alloc (.cells #[] 5)).ownsRow w.heap.size 5 1 (.slice (some ⟨w.heap.size, 0, none⟩) 0 0) 0 [] := ⟨rfl, .inr ⟨w.heap.size, 0, #[], rfl, Nat.le_refl _, heap_alloc_new _ _, Nat.le_refl _, by unfold maxLen; omega, rfl, rfl⟩⟩
    have hcells : ∀ j u, (u8V l)[j]? = some u → (w.alloc (.cells #[] 5)).cell? (ad.add j) = some u := fun j u hj => by
      obtain ⟨b, off, e, hcc⟩ := hc j u hj
      cases e
      rw [Addr.add_mid]
      exact (b1.cell (p := ⟨b, off + j, none⟩) (cell_lt hcc)).trans hcc
    have h1 : ∀ u ∈ u8V l, u.oneCell' = true := fun u hu => by
      obtain ⟨x, _, rfl⟩ := List.mem_map.1 hu
      rfl
    generalize hw1 : w.alloc (.cells #[] 5) = w1 at *
    go_enter Tryz.func55, Tryz.ntmps55
    go_wp2_with (at_builtin; refine wpList_append_own _ rfl _ _ 24 rfl w.heap.size 5 i0 (.int .u8 0) 1 1 Tryz.underlying24 hi0 hz0 hz1 hz2 rfl (by decide) _ _ _ rfl own0 ad l.length cap (u8V l) rfl (by simp [u8V]) hcells h1 (by unfold maxLen; omega) (by omega) b1.size ?_; intro v' w5 hown5 hgrow hnil)
    go_wp2
    go_ret
    exact ⟨v', rfl, by simpa using hown5, b1.grown hgrow b1.size (fun k hk => by have e : w.heap.size = k := Option.some.inj hk; omega)⟩
end Go.Proofs.YtlghjjennhpjeaaGreatDoor

/-
  DERIVED: THE SHELF's CONTRACTS AT THIS DUMP, IN PLAIN WORDS (tools/lay-plain.mjs out of 'YtlghjjennhpjeaaGreatDoorShelfTryJ.lean', which tools/lay-shelf.mjs wrote): THE SAME DECLARATIONS UNDER THE SAME NAMES: 'import', 'namespace', 'open', 'def', 'theorem' AND NOTHING ELSE: no command of the shelf's: FOR A HAND-IN. Each laying: the table of numbers ('.._ren') and one theorem, a field a fact of the dump's own or the kernel's comparison; each contract: ONE APPLICATION.
-/
namespace Go.Proofs
open Go.Shelf
def Tryz.lays14_ren : Go.Shelf.Ren := ⟨fun | 14 => 51 | 15 => 73 | n => n, fun | 26 => 23 | 22 => 24 | 3 => 3 | 4 => 4 | 0 => 0 | 9 => 9 | 20 => 20 | 5 => 5 | n => n, fun | n => n⟩
theorem Tryz.lays14 : Go.Proofs.SlLaysJ.n14 Tryz.prog Tryz.lays14_ren := {
  mixed := by kernel_rfl
  f14 := Tryz.func51.trans (congrArg some (by kernel_rfl))
  f15 := Tryz.func73.trans (congrArg some (by kernel_rfl))
  t0 := Tryz.underlying0
  a0 := Tryz.isAgg0
  z0 := Tryz.sizeOf0
  v0 := Tryz.zeroValue0
  t3 := Tryz.underlying3
  a3 := Tryz.isAgg3
  z3 := Tryz.sizeOf3
  v3 := Tryz.zeroValue3
  t4 := Tryz.underlying4
  a4 := Tryz.isAgg4
  z4 := Tryz.sizeOf4
  v4 := Tryz.zeroValue4
  t9 := Tryz.underlying9
  a9 := Tryz.isAgg9
  z9 := Tryz.sizeOf9
  v9 := Tryz.zeroValue9
  t20 := Tryz.underlying20
  a20 := Tryz.isAgg20
  z20 := Tryz.sizeOf20
  v20 := Tryz.zeroValue20
  t22 := Tryz.underlying24
  a22 := Tryz.isAgg24
  z22 := Tryz.sizeOf24
  v22 := Tryz.zeroValue24
  t26 := Tryz.underlying23
  a26 := Tryz.isAgg23
  z26 := Tryz.sizeOf23
  v26 := Tryz.zeroValue23
  t5 := Tryz.underlying5
  z5 := Tryz.sizeOf5
  i5 := by kernel_rfl }
end Go.Proofs

/-
  bytes.Join of parts of one length, with nothing between them.
-/
namespace Go.Proofs.YtlghjjennhpjeaaGreatDoor
open Go.RowKit Go.Deep Go.Lib

theorem join_none (ls : List (List UInt8)) : Lib.join ls [] = ls.flatten := by
  unfold Lib.join
  induction ls with
  | nil => rfl
  | cons x r ih =>
    cases r with
    | nil => simp [List.intercalate]
    | cons y r =>
      simp only [List.intercalate, List.intersperse, List.flatten_cons, List.nil_append] at ih ⊢
      rw [ih]
theorem Lies.fresh {B : Nat} {w : World} {v : Value} {l : List UInt8} (h : FreshBytes B w v l) : Lies w v (u8V l) := by
  obtain ⟨g, cap, zs, rfl, _, h2, _, h4, h5, h6, h7, _⟩ := h
  have el : (u8V l).length = l.length := by simp [u8V]
  refine ⟨some ⟨g, 0, none⟩, cap, by rw [el], by rw [el]; exact h2, fun j u hj => ⟨g, 0, rfl, ?_⟩⟩
  have hj' : j < l.length := by have := (List.getElem?_eq_some_iff.1 hj).1; omega
  rw [Nat.zero_add, h7 j (by omega), ← hj, u8V_get hj']
  congr 2
  have hz : 0 ≤ zs.getD j 0 ∧ zs.getD j 0 < 256 := by
    have : zs.getD j 0 ∈ zs := by
      rw [List.getD_eq_getElem?_getD, List.getElem?_eq_getElem (by omega)]
      exact List.getElem_mem _
    exact h5 _ this
  have e1 : l.getD j 0 = UInt8.ofNat (zs.getD j 0).toNat := by
    have : l[j]? = (bytesOf (zs.take l.length))[j]? := by rw [h6]
    simp only [bytesOf, List.getElem?_map, List.getElem?_take, if_pos hj'] at this
    rw [List.getD_eq_getElem?_getD, List.getD_eq_getElem?_getD, this, List.getElem?_eq_getElem (by omega)]
    rfl
  rw [bAt, e1]
  generalize zs.getD j 0 = z at hz
  simp only [UInt8.toNat_ofNat']
  omega

/-- What lies in a list of parts. -/
structure Prts (w : World) (C K L : Nat) (dN : Nat → Nat) (ls : List (List UInt8)) : Prop where
  len : ls.length = K
  each : ∀ l ∈ ls, l.length = L
  at0 : ∀ t, t < K → w.cell? ⟨C, t, none⟩ = some (.slice (some ⟨dN t, 0, none⟩) L L)
  byte : ∀ t l, ls[t]? = some l → ∀ m x, l[m]? = some x → w.cell? ⟨dN t, m, none⟩ = some (.int .u8 (x.toNat : Int))
theorem lens_eq {L : Nat} : ∀ (ls : List (List UInt8)), (∀ l ∈ ls, l.length = L) → Lib.lens ls = ls.length * L
  | [], _ => by simp [Lib.lens]
  | l :: r, h => by
    have := lens_eq r fun x hx => h x (List.mem_cons_of_mem _ hx)
    simp only [Lib.lens, List.map_cons, List.sum_cons, List.length_cons, Nat.succ_mul] at this ⊢
    rw [this, h l List.mem_cons_self, Nat.add_comm]
/-- Nil, or somewhere. -/
def DatV (v : Value) (n : Nat) : Prop := v = .slice none 0 0 ∧ n = 0 ∨ ∃ b off cap, v = .slice (some ⟨b, off, none⟩) n cap ∧ n ≤ cap
theorem DatV.fresh {B : Nat} {w : World} {v : Value} {l : List UInt8} (h : FreshBytes B w v l) : DatV v l.length := by
  obtain ⟨g, cap, zs, rfl, _, h2, _⟩ := h
  exact .inr ⟨g, 0, cap, rfl, h2⟩
theorem joinP_any {w : World} {C K L : Nat} {dN : Nat → Nat} {ls : List (List UInt8)} (h : Prts w C K L dN ls) (hK : 0 < K ∧ K ≤ 128) (hL : L ≤ 65536) :
    Calls Tryz.prog 51 #[.slice (some ⟨C, 0, none⟩) K K, .slice none 0 0] w fun r w' => ∃ v, r = .returned v ∧ Lies w' v (u8V ls.flatten) ∧ DatV v ls.flatten.length ∧ Below w.heap.size w w' := by
  by_cases h2 : 2 ≤ K
  · have hP : Lib.PartsAt w ⟨C, 0, none⟩ ((List.range K).map fun t => .slice (some ⟨dN t, 0, none⟩) L L) ls := by
      refine ⟨by simp [h.len], fun i v hv => ?_, fun i v l hv hl => ?_⟩
      · rw [List.getElem?_map] at hv
        obtain ⟨j, hj, rfl⟩ := Option.map_eq_some_iff.1 hv
        have hi := (List.getElem?_eq_some_iff.1 hj)
        obtain ⟨h1, h3⟩ := hi
        simp at h1 h3
        subst h3
        rw [Addr.add_mid, Nat.zero_add]
        exact h.at0 i h1
      · rw [List.getElem?_map] at hv
        obtain ⟨j, hj, rfl⟩ := Option.map_eq_some_iff.1 hv
        obtain ⟨h1, h3⟩ := (List.getElem?_eq_some_iff.1 hj)
        simp at h1 h3
        subst h3
        refine ⟨some ⟨dN i, 0, none⟩, L, by rw [h.each l (List.mem_of_getElem? hl)], (fun e => by cases e), fun a ha m x hx => ?_⟩
        cases ha
        rw [Addr.add_mid, Nat.zero_add]
        exact h.byte i l hl m x hx
    have hb : Lib.lens ls + ([] : List UInt8).length * (K - 1) ≤ 140737488355328 := by
      rw [lens_eq ls h.each, h.len]
      have : K * L ≤ 128 * 65536 := Nat.mul_le_mul hK.2 hL
      simp
      omega
    have k := Any.bytes_Join_many Tryz.lays14 C 0 K K _ ls (.slice none 0 0) [] w h.len h2 hP (Nat.le_refl _) ⟨none, 0, rfl, fun _ => rfl, (fun a ha => by cases ha)⟩ (by omega) hb
    refine k.mono ?_
    rintro r w' ⟨v, rfl, hF, hB⟩
    rw [join_none] at hF
    exact ⟨v, rfl, Lies.fresh hF, DatV.fresh hF, hB⟩
  · obtain rfl : K = 1 := by omega
    obtain ⟨l0, rfl⟩ : ∃ l0, ls = [l0] := List.length_eq_one_iff.1 h.len
    have e0 := h.each l0 (by simp)
    have c0 := h.at0 0 (by omega)
    have hf : [l0].flatten = l0 := by simp
    rw [hf]
    rcases Nat.eq_zero_or_pos L with h0 | h0
    · subst h0
      obtain rfl : l0 = [] := List.eq_nil_of_length_eq_zero e0
      refine (Any.bytes_Join_one_empty Tryz.lays14 C 0 1 (some ⟨dN 0, 0, none⟩) 0 (.slice none 0 0) w c0).mono ?_
      rintro r w' ⟨rfl, rfl⟩
      exact ⟨_, rfl, ⟨none, 0, rfl, Nat.le_refl _, fun j u hj => by simp [u8V] at hj⟩, .inl ⟨rfl, rfl⟩, Below.refl _ _⟩
    · rw [← e0] at c0
      refine (Any.bytes_Join_one Tryz.lays14 C 0 1 ⟨dN 0, 0, none⟩ l0.length l0 (.slice none 0 0) w c0 (fun i x hx => ?_) (by omega) (by omega)).mono ?_
      · rw [Addr.add_mid, Nat.zero_add]
        exact h.byte 0 l0 rfl i x hx
      · rintro r w' ⟨v, rfl, hF, hB⟩
        exact ⟨v, rfl, Lies.fresh hF, DatV.fresh hF, hB⟩
end Go.Proofs.YtlghjjennhpjeaaGreatDoor

/-
  The bytes of a blob among those of all.
-/
namespace Go.Proofs.YtlghjjennhpjeaaGreatDoor
open Go.RowKit Go.Deep

def pre (sz : List Nat) (i : Nat) : Nat := (sz.take i).sum
theorem pre_succ {sz : List Nat} {i : Nat} (h : i < sz.length) : pre sz (i + 1) = pre sz i + sz.getD i 0 := by
  unfold pre
  rw [List.take_add_one, List.sum_append, List.getElem?_eq_getElem h, List.getD_eq_getElem?_getD, List.getElem?_eq_getElem h]
  simp
theorem pre_le (sz : List Nat) (i : Nat) : pre sz i ≤ sz.sum := by
  unfold pre
  have := congrArg List.sum (List.take_append_drop i sz)
  rw [List.sum_append] at this
  omega
/-- The bytes of blob number i. -/
def pcB (sz : List Nat) (l : List UInt8) (i : Nat) : List UInt8 := (l.drop (pre sz i)).take (sz.getD i 0)
theorem lies_part {w : World} {b off n cap : Nat} {l : List UInt8} (h : Lies w (.slice (some ⟨b, off, none⟩) n cap) (u8V l)) {s t : Nat} (hst : s + t ≤ l.length) (c : Nat) (hc : t ≤ c) : Lies w (.slice (some ⟨b, off + s, none⟩) t c) (u8V ((l.drop s).take t)) := by
  have el : ((l.drop s).take t).length = t := by simp; omega
  refine ⟨some ⟨b, off + s, none⟩, c, by simp only [u8V, List.length_map, el], by simp only [u8V, List.length_map, el]; exact hc, fun j u hj => ⟨b, off + s, rfl, ?_⟩⟩
  have hj' : j < t := by have := (List.getElem?_eq_some_iff.1 hj).1; simp only [u8V, List.length_map, el] at this; exact this
  have e : (u8V l)[s + j]? = some u := by
    rw [← hj]
    simp only [u8V, List.getElem?_map, List.getElem?_take, if_pos hj', List.getElem?_drop]
  obtain ⟨b', off', e', hc'⟩ := h.get e
  cases e'
  rw [Nat.add_assoc]
  exact hc'
end Go.Proofs.YtlghjjennhpjeaaGreatDoor

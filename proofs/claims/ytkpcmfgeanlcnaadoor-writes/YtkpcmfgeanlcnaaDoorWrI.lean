/-
  A column in pieces: what slices.Chunk hands out.
-/
import Derived.Test.YtkpcmfgeanlcnaaDoorWrF
import Derived.RangeFuncBox
import Derived.RangeFuncLeaves
import Derived.RangeFuncCalls
import Derived.Shelf.Abstract
import Derived.WalkKit
import Derived.OwnWalkIn
import Derived.TacticsInMore
import Derived.LoopNIn
import Derived.LoopIn
import Derived.RegionIn
import Derived.Sort.QuietIn
namespace Go.Proofs.YtkpcmfgeanlcnaaDoor
open Go.RowKit Go.Deep Go.Shelf

attribute [local go_sem] Oper.semAt_some

set_option maxHeartbeats 1000000 in
set_option maxRecDepth 100000 in
theorem chunk_in (n : Nat) (ba : Option Addr) (len cap : Nat) (c : Nat) (hc : 1 ≤ c) (w : World) :
    CallsIn Fence.wide n Tryd.prog 80 #[.slice ba len cap, .int .i64 (c : Int)] w fun e w' => e = .returned (.func (.func 100) #[] #[.pointer (some ⟨w.heap.size, 0, none⟩), .pointer (some ⟨w.heap.size + 1, 0, none⟩)]) ∧ w' = (w.alloc (.cells #[.slice ba len cap] 24)).alloc (.cells #[.int .i64 (c : Int)] 3) := by
  refine callsIn_of_wp Tryd.func80 rfl trivial ?_ rfl
  simp only [Tryd.ntmps80, List.size_toArray, List.length_cons, List.length_nil, Nat.reduceAdd, Nat.reduceSub, Array.replicate_succ, Array.replicate_zero, List.push_toArray, List.append_toArray, List.nil_append, List.cons_append]
  gi_wp2
  go_ret
  exact ⟨rfl, rfl⟩

/-- What a round keeps: what lies below n₀, and two boxes. -/
structure KpC (n₀ sb nb : Nat) (A B : World) : Prop where
  below : Below n₀ A B
  s : B.heap[sb]? = A.heap[sb]?
  n : B.heap[nb]? = A.heap[nb]?
theorem KpC.trans {n₀ sb nb : Nat} {A B C : World} (h : KpC n₀ sb nb A B) (k : KpC n₀ sb nb B C) : KpC n₀ sb nb A C := ⟨h.below.trans k.below, k.s.trans h.s, k.n.trans h.n⟩
/-- Frame k of a row of bytes, as a slice. -/
def frameV (b off len c k : Nat) : Value := .slice (some ⟨b, off + k * c, none⟩) (min c (len - k * c)) (min c (len - k * c))
abbrev FrK (c len : Nat) := { k : Nat // k * c < len }

set_option maxHeartbeats 2000000 in
set_option maxRecDepth 100000 in
theorem chunk1_in (n : Nat) (hn : 1 ≤ n) (l sb nb n₀ b off len cap c : Nat) (hc : 1 ≤ c) (hc2 : c ≤ 65536) (hlen : len ≤ 1000000) (hcap : len ≤ cap) (ba : Option Addr) (hba : 0 < len → ba = some ⟨b, off, none⟩) (J Jx : List (FrK c len) → World → Prop) (hJ : ∀ s (A : World) (q : Nat), J s A → J s (A.drewN q))
    (hY : ∀ pre x W, J pre W → pre.length < nFr c len → YieldAt Fence.wide (n - 1) Tryd.prog l #[frameV b off len c x.1] W fun e W' =>
      (e = .returned (.bool true) ∧ J (pre ++ [x]) W' ∧ KpC n₀ sb nb W W') ∨ (e = .returned (.bool false) ∧ Jx (pre ++ [x]) W'))
    (W : World) (hs : Boxed W sb 24 (.slice ba len cap)) (hn' : Boxed W nb 3 (.int .i64 (c : Int))) (h0 : J [] W) :
    CallsIn Fence.wide n Tryd.prog 100 #[.func (.yield l) #[] #[], .pointer (some ⟨sb, 0, none⟩), .pointer (some ⟨nb, 0, none⟩)] W fun e W' => (∃ v, e = .returned v) ∧
      ((∃ ys, ys.map Subtype.val = List.range (nFr c len) ∧ J ys W') ∨ (∃ pre, True ∧ Jx pre W')) := by
  refine callsIn_of_wp Tryd.func100 rfl trivial ?_ rfl
  simp only [Tryd.ntmps100, List.size_toArray, List.length_cons, List.length_nil, Nat.reduceAdd, Nat.reduceSub, Array.replicate_succ, Array.replicate_zero, List.push_toArray, List.append_toArray, List.nil_append, List.cons_append]
  gi_wp2
  gi_loopw [4] (fun i wr => ∃ (k : Nat) (pre : List (FrK c len)), k ≤ nFr c len ∧ i = .int .i64 ((k * c : Nat) : Int) ∧ pre.map Subtype.val = List.range k ∧ J pre wr ∧ Boxed wr sb 24 (.slice ba len cap) ∧ Boxed wr nb 3 (.int .i64 (c : Int)))
    (fun i _ => 10000000 - (intOf i).toNat)
  case atStart => exact ⟨0, [], Nat.zero_le _, by simp, rfl, h0, hs, hn'⟩
  case round =>
    obtain ⟨k, pre, hk, rfl, hpre, hJs, hs', hnb'⟩ := hrel
    clear hs hn' h0
    have hcs := hs'.cell
    have hcn := hnb'.cell
    have hpl : pre.length = k := by have := congrArg List.length hpre; simpa using this
    by_cases hlt : k * c < len
    · have hkn : k < nFr c len := (nFr_lt hc).2 hlt
      obtain rfl := hba (by omega)
      have hk1 : Hid ((k + 1) * c = k * c + c) := by show _ = _; rw [Nat.add_mul, Nat.one_mul]
      have hlt0 : Hid (k * c < len) := hlt
      obtain ⟨p, ep⟩ : ∃ p, k * c = p := ⟨_, rfl⟩
      rw [ep] at hlt hk1 ⊢
      have EP : Hid (k * c = p) := ep
      clear ep
      rcases Nat.lt_or_ge (len - p) c with q | q
      · gi_wp2
        gi_big_quiet (fail)
        obtain ⟨fn, tmps, assign, body, hy, hR⟩ := hY pre ⟨k, hlt0.out⟩ (wr.drewN nq) (hJ _ _ _ hJs) (by rw [hpl]; exact hkn)
        unfold frameV at hy
        dsimp only at hy
        rw [EP.out, show min c (len - p) = len - p by omega] at hy
        gi_wp2
        refine hR.mono ?_
        rintro e W3 (⟨rfl, hJ3, hk3⟩ | ⟨rfl, hJx3⟩)
        · have hs3 : Boxed W3 sb 24 (.slice (some ⟨b, off, none⟩) len cap) := hk3.s.trans hs'
          have hn3 : Boxed W3 nb 3 (.int .i64 (c : Int)) := hk3.n.trans hnb'
          have hcn3 := hn3.cell
          gi_wp2
          go_roundw
          case rel => exact ⟨k + 1, pre ++ [⟨k, hlt0.out⟩], by omega, by rw [hk1.out]; go_num, by simp [hpre, List.range_succ], hJ3, hs3, hn3⟩
          case measure => simp [intOf]; omega
        · gi_wp2
          refine bodyPost_ret (results_none rfl _ _ _) rfl ?_
          exact ⟨⟨_, rfl⟩, .inr ⟨_, trivial, hJx3⟩⟩
      · gi_wp2
        gi_big_quiet (fail)
        obtain ⟨fn, tmps, assign, body, hy, hR⟩ := hY pre ⟨k, hlt0.out⟩ (wr.drewN nq) (hJ _ _ _ hJs) (by rw [hpl]; exact hkn)
        unfold frameV at hy
        dsimp only at hy
        rw [EP.out, show min c (len - p) = c by omega] at hy
        gi_wp2
        refine hR.mono ?_
        rintro e W3 (⟨rfl, hJ3, hk3⟩ | ⟨rfl, hJx3⟩)
        · have hs3 : Boxed W3 sb 24 (.slice (some ⟨b, off, none⟩) len cap) := hk3.s.trans hs'
          have hn3 : Boxed W3 nb 3 (.int .i64 (c : Int)) := hk3.n.trans hnb'
          have hcn3 := hn3.cell
          gi_wp2
          go_roundw
          case rel => exact ⟨k + 1, pre ++ [⟨k, hlt0.out⟩], by omega, by rw [hk1.out]; go_num, by simp [hpre, List.range_succ], hJ3, hs3, hn3⟩
          case measure => simp [intOf]; omega
        · gi_wp2
          refine bodyPost_ret (results_none rfl _ _ _) rfl ?_
          exact ⟨⟨_, rfl⟩, .inr ⟨_, trivial, hJx3⟩⟩
    · have e : k = nFr c len := by
        rcases Nat.lt_or_ge k (nFr c len) with x | x
        · exact absurd ((nFr_lt hc).1 x) hlt
        · omega
      have HP : Hid (pre.map Subtype.val = List.range (nFr c len)) := e ▸ hpre
      obtain ⟨p, ep⟩ : ∃ p, k * c = p := ⟨_, rfl⟩
      have hpb : p ≤ 10000000 := by
        rcases Nat.eq_zero_or_pos k with x | x
        · subst x; omega
        · have : (k - 1) * c < len := (nFr_lt hc).1 (by omega)
          have e2 : k * c = (k - 1) * c + c := by
            obtain ⟨k', rfl⟩ : ∃ k', k = k' + 1 := ⟨k - 1, by omega⟩
            rw [Nat.add_sub_cancel, Nat.add_mul, Nat.one_mul]
          omega
      rw [ep] at hlt ⊢
      clear ep hpre e hpl hk hba
      gi_wp2
      go_end0
      exact ⟨⟨_, rfl⟩, .inl ⟨_, HP.out, hJs⟩⟩
/-- slices.Chunk hands out the frames of a row of bytes, one behind the other. -/
theorem chunk_stops (n : Nat) (hn : 1 ≤ n) (sb nb n₀ b off len cap c : Nat) (hc : 1 ≤ c) (hc2 : c ≤ 65536) (hlen : len ≤ 1000000) (hcap : len ≤ cap) (ba : Option Addr) (hba : 0 < len → ba = some ⟨b, off, none⟩) (w : World) (hs : Boxed w sb 24 (.slice ba len cap)) (hn' : Boxed w nb 3 (.int .i64 (c : Int))) :
    SeqStopsK Fence.wide n Tryd.prog 100 #[.pointer (some ⟨sb, 0, none⟩), .pointer (some ⟨nb, 0, none⟩)] (fun x : FrK c len => #[frameV b off len c x.1]) (KpC n₀ sb nb) (fun ys => ys.map Subtype.val = List.range (nFr c len)) (fun _ => True) (nFr c len) w := fun l J Jx W hW hJ _ hY h0 =>
  chunk1_in n hn l sb nb n₀ b off len cap c hc hc2 hlen hcap ba hba J Jx (fun s A q hs => hJ s A (A.drewN q) none hs ⟨rfl, rfl, rfl, Nat.le_refl _, fun _ _ _ => rfl⟩ (fun _ e => by cases e)) hY W ((hW.block sb hs.lt).trans hs) ((hW.block nb hn'.lt).trans hn') h0
end Go.Proofs.YtkpcmfgeanlcnaaDoor

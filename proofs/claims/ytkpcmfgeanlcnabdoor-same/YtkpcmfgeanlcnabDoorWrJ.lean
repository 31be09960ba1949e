/-
  A column in pieces: what slices.Chunk hands out.
-/
import Derived.Test.YtkpcmfgeanlcnabDoorWrG
import Derived.RangeFuncBox
import Derived.RangeFuncLeaves
import Derived.RangeFuncCalls
import Derived.Shelf.Abstract
import Derived.WalkKit
import Derived.OwnWalkIn
import Derived.TacticsInMore
import Derived.LoopNIn
import Derived.LoopIn
import Derived.RegionIn
import Derived.Sort.QuietIn
import Derived.Test.YtkpcmfgeanlcnabDoorWrP
import Derived.RangeFuncNested
namespace Go.Proofs.YtkpcmfgeanlcnabDoor
open Go.RowKit Go.Deep Go.Shelf

attribute [local go_sem] Oper.semAt_some

set_option maxHeartbeats 1000000 in
set_option maxRecDepth 100000 in
theorem chunk_in (n : Nat) (ba : Option Addr) (len cap : Nat) (c : Nat) (hc : 1 ≤ c) (w : World) :
    CallsIn Fence.wide n Tryd.prog 38 #[.slice ba len cap, .int .i64 (c : Int)] w fun e w' => e = .returned (.func (.func 64) #[] #[.pointer (some ⟨w.heap.size, 0, none⟩), .pointer (some ⟨w.heap.size + 1, 0, none⟩)]) ∧ w' = (w.alloc (.cells #[.slice ba len cap] 29)).alloc (.cells #[.int .i64 (c : Int)] 3) := by
  refine callsIn_of_wp Tryd.func38 rfl trivial ?_ rfl
  simp only [Tryd.ntmps38, List.size_toArray, List.length_cons, List.length_nil, Nat.reduceAdd, Nat.reduceSub, Array.replicate_succ, Array.replicate_zero, List.push_toArray, List.append_toArray, List.nil_append, List.cons_append]
  gi_wp2
  go_ret
  exact ⟨rfl, rfl⟩

/-- What a round keeps: what lies below n₀, and two boxes. -/
structure KpC (n₀ sb nb : Nat) (A B : World) : Prop where
  below : Below n₀ A B
  s : B.heap[sb]? = A.heap[sb]?
  n : B.heap[nb]? = A.heap[nb]?
theorem KpC.trans {n₀ sb nb : Nat} {A B C : World} (h : KpC n₀ sb nb A B) (k : KpC n₀ sb nb B C) : KpC n₀ sb nb A C := ⟨h.below.trans k.below, k.s.trans h.s, k.n.trans h.n⟩
/-- Frame k of a row of bytes, as a slice. -/
def frameV (b off len c k : Nat) : Value := .slice (some ⟨b, off + k * c, none⟩) (min c (len - k * c)) (min c (len - k * c))
abbrev FrK (c len : Nat) := { k : Nat // k * c < len }

set_option maxHeartbeats 2000000 in
set_option maxRecDepth 100000 in
theorem chunk1_in (n : Nat) (hn : 1 ≤ n) (l sb nb n₀ b off len cap c : Nat) (hc : 1 ≤ c) (hc2 : c ≤ 65536) (hlen : len ≤ 1000000) (hcap : len ≤ cap) (ba : Option Addr) (hba : 0 < len → ba = some ⟨b, off, none⟩) (J Jx : List (FrK c len) → World → Prop) (hJ : ∀ s (A : World) (q : Nat), J s A → J s (A.drewN q))
    (hY : ∀ pre x W, J pre W → pre.length < nFr c len → YieldAt Fence.wide (n - 1) Tryd.prog l #[frameV b off len c x.1] W fun e W' =>
      (e = .returned (.bool true) ∧ J (pre ++ [x]) W' ∧ KpC n₀ sb nb W W') ∨ (e = .returned (.bool false) ∧ Jx (pre ++ [x]) W'))
    (W : World) (hs : Boxed W sb 29 (.slice ba len cap)) (hn' : Boxed W nb 3 (.int .i64 (c : Int))) (h0 : J [] W) :
    CallsIn Fence.wide n Tryd.prog 64 #[.func (.yield l) #[] #[], .pointer (some ⟨sb, 0, none⟩), .pointer (some ⟨nb, 0, none⟩)] W fun e W' => (∃ v, e = .returned v) ∧
      ((∃ ys, ys.map Subtype.val = List.range (nFr c len) ∧ J ys W') ∨ (∃ pre, True ∧ Jx pre W')) := by
  refine callsIn_of_wp Tryd.func64 rfl trivial ?_ rfl
  simp only [Tryd.ntmps64, List.size_toArray, List.length_cons, List.length_nil, Nat.reduceAdd, Nat.reduceSub, Array.replicate_succ, Array.replicate_zero, List.push_toArray, List.append_toArray, List.nil_append, List.cons_append]
  gi_wp2
  gi_loopw [4] (fun i wr => ∃ (k : Nat) (pre : List (FrK c len)), k ≤ nFr c len ∧ i = .int .i64 ((k * c : Nat) : Int) ∧ pre.map Subtype.val = List.range k ∧ J pre wr ∧ Boxed wr sb 29 (.slice ba len cap) ∧ Boxed wr nb 3 (.int .i64 (c : Int)))
    (fun i _ => 10000000 - (intOf i).toNat)
  case atStart => exact ⟨0, [], Nat.zero_le _, by simp, rfl, h0, hs, hn'⟩
  case round =>
    obtain ⟨k, pre, hk, rfl, hpre, hJs, hs', hnb'⟩ := hrel
    clear hs hn' h0
    have hcs := hs'.cell
    have hcn := hnb'.cell
    have hpl : pre.length = k := by have := congrArg List.length hpre; simpa using this
    by_cases hlt : k * c < len
    · have hkn : k < nFr c len := (nFr_lt hc).2 hlt
      obtain rfl := hba (by omega)
      have hk1 : Hid ((k + 1) * c = k * c + c) := by show _ = _; rw [Nat.add_mul, Nat.one_mul]
      have hlt0 : Hid (k * c < len) := hlt
      obtain ⟨p, ep⟩ : ∃ p, k * c = p := ⟨_, rfl⟩
      rw [ep] at hlt hk1 ⊢
      have EP : Hid (k * c = p) := ep
      clear ep
      rcases Nat.lt_or_ge (len - p) c with q | q
      · gi_wp2
        gi_big_quiet (fail)
        obtain ⟨fn, tmps, assign, body, hy, hR⟩ := hY pre ⟨k, hlt0.out⟩ (wr.drewN nq) (hJ _ _ _ hJs) (by rw [hpl]; exact hkn)
        unfold frameV at hy
        dsimp only at hy
        rw [EP.out, show min c (len - p) = len - p by omega] at hy
        gi_wp2
        refine hR.mono ?_
        rintro e W3 (⟨rfl, hJ3, hk3⟩ | ⟨rfl, hJx3⟩)
        · have hs3 : Boxed W3 sb 29 (.slice (some ⟨b, off, none⟩) len cap) := hk3.s.trans hs'
          have hn3 : Boxed W3 nb 3 (.int .i64 (c : Int)) := hk3.n.trans hnb'
          have hcn3 := hn3.cell
          gi_wp2
          go_roundw
          case rel => exact ⟨k + 1, pre ++ [⟨k, hlt0.out⟩], by omega, by rw [hk1.out]; go_num, by simp [hpre, List.range_succ], hJ3, hs3, hn3⟩
          case measure => simp [intOf]; omega
        · gi_wp2
          refine bodyPost_ret (results_none rfl _ _ _) rfl ?_
          exact ⟨⟨_, rfl⟩, .inr ⟨_, trivial, hJx3⟩⟩
      · gi_wp2
        gi_big_quiet (fail)
        obtain ⟨fn, tmps, assign, body, hy, hR⟩ := hY pre ⟨k, hlt0.out⟩ (wr.drewN nq) (hJ _ _ _ hJs) (by rw [hpl]; exact hkn)
        unfold frameV at hy
        dsimp only at hy
        rw [EP.out, show min c (len - p) = c by omega] at hy
        gi_wp2
        refine hR.mono ?_
        rintro e W3 (⟨rfl, hJ3, hk3⟩ | ⟨rfl, hJx3⟩)
        · have hs3 : Boxed W3 sb 29 (.slice (some ⟨b, off, none⟩) len cap) := hk3.s.trans hs'
          have hn3 : Boxed W3 nb 3 (.int .i64 (c : Int)) := hk3.n.trans hnb'
          have hcn3 := hn3.cell
          gi_wp2
          go_roundw
          case rel => exact ⟨k + 1, pre ++ [⟨k, hlt0.out⟩], by omega, by rw [hk1.out]; go_num, by simp [hpre, List.range_succ], hJ3, hs3, hn3⟩
          case measure => simp [intOf]; omega
        · gi_wp2
          refine bodyPost_ret (results_none rfl _ _ _) rfl ?_
          exact ⟨⟨_, rfl⟩, .inr ⟨_, trivial, hJx3⟩⟩
    · have e : k = nFr c len := by
        rcases Nat.lt_or_ge k (nFr c len) with x | x
        · exact absurd ((nFr_lt hc).1 x) hlt
        · omega
      have HP : Hid (pre.map Subtype.val = List.range (nFr c len)) := e ▸ hpre
      obtain ⟨p, ep⟩ : ∃ p, k * c = p := ⟨_, rfl⟩
      have hpb : p ≤ 10000000 := by
        rcases Nat.eq_zero_or_pos k with x | x
        · subst x; omega
        · have : (k - 1) * c < len := (nFr_lt hc).1 (by omega)
          have e2 : k * c = (k - 1) * c + c := by
            obtain ⟨k', rfl⟩ : ∃ k', k = k' + 1 := ⟨k - 1, by omega⟩
            rw [Nat.add_sub_cancel, Nat.add_mul, Nat.one_mul]
          omega
      rw [ep] at hlt ⊢
      clear ep hpre e hpl hk hba
      gi_wp2
      go_end0
      exact ⟨⟨_, rfl⟩, .inl ⟨_, HP.out, hJs⟩⟩
/-- slices.Chunk hands out the frames of a row of bytes, one behind the other. -/
theorem chunk_stops (n : Nat) (hn : 1 ≤ n) (sb nb n₀ b off len cap c : Nat) (hc : 1 ≤ c) (hc2 : c ≤ 65536) (hlen : len ≤ 1000000) (hcap : len ≤ cap) (ba : Option Addr) (hba : 0 < len → ba = some ⟨b, off, none⟩) (w : World) (hs : Boxed w sb 29 (.slice ba len cap)) (hn' : Boxed w nb 3 (.int .i64 (c : Int))) :
    SeqStopsK Fence.wide n Tryd.prog 64 #[.pointer (some ⟨sb, 0, none⟩), .pointer (some ⟨nb, 0, none⟩)] (fun x : FrK c len => #[frameV b off len c x.1]) (KpC n₀ sb nb) (fun ys => ys.map Subtype.val = List.range (nFr c len)) (fun _ => True) (nFr c len) w := fun l J Jx W hW hJ _ hY h0 =>
  chunk1_in n hn l sb nb n₀ b off len cap c hc hc2 hlen hcap ba hba J Jx (fun s A q hs => hJ s A (A.drewN q) none hs ⟨rfl, rfl, rfl, Nat.le_refl _, fun _ _ _ => rfl⟩ (fun _ e => by cases e)) hY W ((hW.block sb hs.lt).trans hs) ((hW.block nb hn'.lt).trans hn') h0
end Go.Proofs.YtkpcmfgeanlcnabDoor

/-
  What the program's layout.Write leaves.
-/
namespace Go.Proofs.YtkpcmfgeanlcnabDoor
open Go.RowKit Go.Deep Go.Shelf

attribute [local go_sem] Oper.semAt_some

/-- 'append(list, text...)' in a fence. -/
theorem wpListIn_append_string {F : Fence} {n : Nat} {P : Program} (w : World) {ops : Array Oper} {rest : List Oper} {o : Oper} {a : Act} {Q : Exit → Act → World → Prop} (hg : o.guard = none) (sl x : Operand) (t u : TypeId)
    (hop : o.op = .call { callee := .builtin .append, args := #[sl, x], argTypes := #[t, u] })
    (base : Nat) (e : TypeId) (i : TypeInfo) (ht : P.underlying t = some (.slice e)) (hu : P.underlying u = some .string) (hi : P.info? e = some i) (hz : i.zero = some (.int .u8 0)) (hsize : i.size = 1) (hby : i.bytes = 1)
    (v : Value) (k : Nat) (xs : List Value) (hs : a.eval sl = v) (hown : w.ownsRow base e 1 v k xs) (s : ByteArray) (hx : a.eval x = .string s) (b1 : k + s.size ≤ maxLen) (b2 : k + s.size ≤ 140737488355328) (b3 : base ≤ w.heap.size)
    (hK : ∀ v' w', w'.ownsRow base e 1 v' (k + s.size) (xs ++ Lib.strCells s) → w.grownBy w' v.ownBlock → wpListIn F n P ops Q rest (a.put o.dst v') w') :
    wpListIn F n P ops Q (o :: rest) a w := by
  refine wpListIn_plain hg fun K hK' => ?_
  obtain ⟨v', w', hrun, r1, r2, _⟩ := Lib.run_append_own_string (P := P) w base t u o.type e i ht hu hi hz hsize hby v k xs hown s b1 b2 b3
  unfold Oper.wpIn
  refine ⟨?_, ?_⟩
  · simp [Oper.about, hop, resolve, Target.leads, Sem.run_pure]
  · rw [Oper.semAt_plain F _ _ (by rw [hop]; intro c hc'; cases hc')]
    simp [execOp, hop, resolve, invoke, builtin, hs, hx, hrun, Result.andThen]
    exact hK' _ _ (hK v' w' r1 r2)

theorem OwnB.set {B lb : Nat} {w : World} {v u : Value} {l : List UInt8} (h : OwnB B w v l) (hL : Boxed w lb 29 u) (v' : Value) : OwnB B (w.setCell ⟨lb, 0, none⟩ v') v l :=
  World.ownsRow.kept h (grownBy_setCell' w lb v') (.inr (hL.not_row (by decide) h).symm)
theorem RowAt.setO {w : World} {b lb : Nat} {cs : List Value} {t : TypeId} (h : RowAt w b cs t) (hne : b ≠ lb) (v : Value) : RowAt (w.setCell ⟨lb, 0, none⟩ v) b cs t :=
  (Below.heap_setCell _ _ _ b hne).trans h

/-- The list as far as these frames have come. -/
def LL (M : List UInt8) (c : Nat) (col : List UInt8) {len : Nat} (pre : List (FrK c len)) : List UInt8 := M ++ pre.flatMap fun x => frameB c col x.1
theorem LL_snoc (M : List UInt8) (c : Nat) (col : List UInt8) {len : Nat} (pre : List (FrK c len)) (x : FrK c len) : LL M c col (pre ++ [x]) = LL M c col pre ++ frameB c col x.1 := by simp [LL, List.append_assoc]
theorem LL_all (M : List UInt8) (c : Nat) (col : List UInt8) {len : Nat} (pre : List (FrK c len)) (n : Nat) (h : pre.map Subtype.val = List.range n) : LL M c col pre = M ++ framesTo c col n := by
  unfold LL framesTo
  rw [← h, List.flatMap_map]

theorem frameB_length (c : Nat) (col : List UInt8) (k : Nat) : (frameB c col k).length ≤ c + 8 := by
  unfold frameB
  rw [sealB_length]
  have : (part col (k * c) (min c (col.length - k * c))).length ≤ min c (col.length - k * c) := by unfold part; exact List.length_take_le _ _
  omega
theorem LL_length (M : List UInt8) (c : Nat) (col : List UInt8) {len : Nat} : ∀ pre : List (FrK c len), (LL M c col pre).length ≤ M.length + pre.length * (c + 8)
  | [] => by simp [LL]
  | x :: pre => by
    have h1 := LL_length M c col pre
    have h2 := frameB_length c col x.1
    simp only [LL, List.flatMap_cons, List.length_append, List.length_cons] at h1 ⊢
    rw [Nat.add_mul, Nat.one_mul]
    omega
theorem KeepT.others {a b : World} (h : KeepT a b) : KeepsOthers a b := ⟨h.size, fun k o hk ho => h.same k o hk (by cases o <;> simp_all [noBytes, Obj.isCells])⟩

set_option maxHeartbeats 4000000 in
set_option maxRecDepth 100000 in
theorem layWrite_any (k n i c : Nat) (hk : k ≤ 255) (hn : n ≤ 255) (hi : i ≤ 255) (hc : 1 ≤ c) (hc2 : c ≤ 65536) (vN vS : Value) (bc : Option Addr) (len capc : Nat) (col : List UInt8) (hcl : col.length = len) (hlen : len ≤ 65536) (gm capm ml : Nat) (man : List UInt8) (hml : man.length = ml) (hm8 : 8 ≤ ml) (hm : ml ≤ 1000000)
    (w : World) (hcol : Lies w (.slice bc len capc) (u8V col)) (hman : Byt w gm 0 man) (hgm : gm < w.heap.size) (hT : Tab w) :
    Calls Tryd.prog 23 #[.agg #[.int .i64 (k : Int), .int .i64 (n : Int), .int .i64 (i : Int), .int .i64 (c : Int), vN, vS, .slice bc len capc], .slice (some ⟨gm, 0, none⟩) ml capm] w
      fun r w' => ∃ v, r = .returned v ∧ OwnB w.heap.size w' v (sealB ([67, 65, 73, 82, 78, 49] ++ ([UInt8.ofNat k, UInt8.ofNat n, UInt8.ofNat i, 0] ++ (leB 4 c ++ (leB 4 (ml - 8) ++ (leB 4 len ++ [0, 0]))))) ++ man ++ framesTo c col (nFr c len) ++ [68, 79, 78, 69]) ∧ Below w.heap.size w w' := by
  obtain ⟨b, off, hba, hby⟩ : ∃ b off, (0 < len → bc = some ⟨b, off, none⟩) ∧ Byt w b off col := by
    obtain ⟨ba, cap', e, _, hh⟩ := hcol
    injection e with e1 e2 e3
    subst e1
    rcases Nat.eq_zero_or_pos len with h0 | h0
    · exact ⟨0, 0, fun h => by omega, fun j hj => by omega⟩
    · obtain ⟨b, off, e4, _⟩ := hh 0 _ (u8V_get (by omega))
      refine ⟨b, off, fun _ => e4, fun j hj => ?_⟩
      obtain ⟨b', off', e5, h5⟩ := hh j _ (u8V_get hj)
      rw [e4] at e5
      injection e5 with e5
      injection e5 with e6 e7
      subst e6 e7
      exact h5
  have hcapc : len ≤ capc := by
    obtain ⟨ba, cap', e, h, _⟩ := hcol
    injection e with e1 e2 e3
    rw [u8V_length] at h
    omega
  obtain ⟨i0, hi0, hz0, hz1, hz2⟩ := info_parts infoB8
  obtain ⟨f, ef⟩ : ∃ f, (len + c - 1) / c = f := ⟨_, rfl⟩
  have hf : f ≤ len + c := by rw [← ef]; exact Nat.le_trans (Nat.div_le_self _ _) (by omega)
  have hq : ((len : Int) + (c : Int) - 1) / (c : Int) = (f : Int) := by
    rw [show (len : Int) + (c : Int) - 1 = ((len + c - 1 : Nat) : Int) by omega, ← Int.natCast_ediv, ef]
  obtain ⟨w0, hmk, ho0, hg0⟩ := run_make_own (P := Tryd.prog) (w.alloc (.cells #[.int .i64 (k : Int), .int .i64 (n : Int), .int .i64 (i : Int), .int .i64 (c : Int), vN, vS, .slice bc len capc] 60)) w.heap.size 29 5 i0 (.int .u8 0) 1 Tryd.underlying29 hi0 hz0 hz1 .i64 .i64 (32 + ml + len + f * 8 + 4) (by rw [hz2]; omega) (by unfold maxLen; omega) (by simp)
  have hcast : ((32 + ml + len + f * 8 + 4 : Nat) : Int) = 32 + (ml : Int) + (len : Int) + (f : Int) * 8 + 4 := by omega
  rw [hcast] at hmk
  simp only [World.size_alloc] at hmk ho0
  clear hcast ef
  obtain ⟨CP, eCP⟩ : ∃ CP, 32 + ml + len + f * 8 + 4 = CP := ⟨_, rfl⟩
  rw [eCP] at hmk ho0
  clear eCP
  have hr0 : RowAt w0 w.heap.size [.int .i64 (k : Int), .int .i64 (n : Int), .int .i64 (i : Int), .int .i64 (c : Int), vN, vS, .slice bc len capc] 60 := (hg0.block w.heap.size (by simp) (by simp)).trans (RowAt.made w _ _)
  have hO0 : OwnB w.heap.size w0 (.slice (some ⟨w.heap.size + 1, 0, none⟩) 0 CP) [] := OwnB.of ho0
  have hb0 : Below w.heap.size w w0 := ((Below.refl w.heap.size w).alloc (Nat.le_refl _) _).grown hg0 (by simp) (fun k hk => by cases hk)
  have hs0 : w.heap.size < w0.heap.size := by have := hg0.size; simp at this; omega
  clear hg0 ho0
  have hL1 := Boxed.new w0 29 (.slice (some ⟨w.heap.size + 1, 0, none⟩) 0 CP)
  have hO1 := hO0.alloc (.cells #[.slice (some ⟨w.heap.size + 1, 0, none⟩) 0 CP] 29)
  have hb1 := hb0.alloc (Nat.le_of_lt hs0) (.cells #[.slice (some ⟨w.heap.size + 1, 0, none⟩) 0 CP] 29)
  have hr1 : RowAt (w0.alloc (.cells #[.slice (some ⟨w.heap.size + 1, 0, none⟩) 0 CP] 29)) w.heap.size [.int .i64 (k : Int), .int .i64 (n : Int), .int .i64 (i : Int), .int .i64 (c : Int), vN, vS, .slice bc len capc] 60 := hr0.keep ((KeepT.refl _).alloc _) (by decide)
  have c0 := hr1.cell (i := 0) rfl
  have c1 := hr1.cell (i := 1) rfl
  have c2 := hr1.cell (i := 2) rfl
  have c3 := hr1.cell (i := 3) rfl
  have c4 := hr1.cell (i := 4) rfl
  have c5 := hr1.cell (i := 5) rfl
  have c6 := hr1.cell (i := 6) rfl
  have hpos : 0 < w.heap.size := hT.1
  have hM8 : (ml : Int) - 8 = ((ml - 8 : Nat) : Int) := by omega
  have K1 := appHead_any w.heap.size _ k n i c hk hn hi hc2 vN vS bc len capc (by omega) ((ml : Int) - 8) (ml - 8) hM8 (by omega) _ hO1 hb1.size (hT.below hb1 hpos) hpos
  clear hM8
  obtain ⟨H, eH⟩ : ∃ H, sealB ([67, 65, 73, 82, 78, 49] ++ ([UInt8.ofNat k, UInt8.ofNat n, UInt8.ofNat i, 0] ++ (leB 4 c ++ (leB 4 (ml - 8) ++ (leB 4 len ++ [0, 0]))))) = H := ⟨_, rfl⟩
  have hHl : Hid (H.length = 32) := by
    show _ = _
    rw [← eH, sealB_length]; simp [leB_length]
  rw [eH] at K1 ⊢
  obtain ⟨M4, eM4⟩ : ∃ M4, H ++ man = M4 := ⟨_, rfl⟩
  have hM4 : Hid (H ++ man = M4) := eM4
  have hM4l : Hid (M4.length = 32 + ml) := by
    show _ = _
    rw [← eM4, List.length_append, hHl.out, hml]
  rw [eM4]
  clear eM4
  clear eH hO0 hr0 hb0
  refine (callsIn_wide (n := 6)).1 ?_
  refine callsIn_of_wp_marks Tryd.func23 rfl trivial ?_ rfl
  simp only [Tryd.ntmps23, List.size_toArray, List.length_cons, List.length_nil, Nat.reduceAdd, Nat.reduceSub, Array.replicate_succ, Array.replicate_zero, List.push_toArray, List.append_toArray, List.nil_append, List.cons_append]
  gi_wp2_with (first
    | (refine ⟨trivial, ?_⟩; gi_at_call 37; refine (callsIn_wide.2 K1).mono ?_; clear K1; rintro r w2 ⟨v2, rfl, hO2, hb2, hk2⟩; obtain ⟨g2, cap2, rfl, _, _, _, _, _⟩ := owns_byt hO2 (by have := hHl.out; omega); have hL2 : Boxed w2 w0.heap.size 29 _ := hk2.same _ _ hL1 rfl; have cL := hL2.cell; have fL := hL2.frozen
       have hr3 := (hr1.keep hk2 (by decide)).setO (lb := w0.heap.size) (by omega) (.slice (some ⟨g2, 0, none⟩) H.length cap2); have hO3 := hO2.set hL2 (.slice (some ⟨g2, 0, none⟩) H.length cap2); have hL3 := hL2.set (.slice (some ⟨g2, 0, none⟩) H.length cap2); have hb3 := (hb1.trans hb2).setCell (p := ⟨w0.heap.size, 0, none⟩) (by show w.heap.size ≤ w0.heap.size; omega) (.slice (some ⟨g2, 0, none⟩) H.length cap2); have hM3 := hman.later (.of_below (S := fun _ => False) hb3) hgm id; clear c0 c1 c2 c3 c4 c5 c6 hr1 hL1 hO1 hO2 hb1 hb2 hk2 hL2)
    | (gi_at_builtin; refine wpListIn_append_own _ rfl _ _ 29 rfl w.heap.size 5 i0 (.int .u8 0) 1 1 Tryd.underlying29 hi0 hz0 hz1 hz2 rfl (by decide) _ _ _ rfl hO3 ⟨gm, 0, none⟩ ml capm (u8V man) rfl (by rw [u8V_length]; omega) hM3.news (u8V_one _) (by have := hHl.out; unfold maxLen; omega) (by have := hHl.out; omega) hb3.size ?_; intro v4 w4 hown4 hgrow4 _; have hO4 : OwnB w.heap.size w4 v4 M4 := hM4.out ▸ OwnB.more hown4 rfl; have hk4 := hO3.keeps hgrow4; have hb4 := hb3.trans (hO3.grown hgrow4 hb3.size); obtain ⟨g4, cap4, rfl, _, _, _, _, _⟩ := owns_byt hO4 (by have := hM4l.out; omega); have hL4 : Boxed w4 w0.heap.size 29 _ := hk4.same _ _ hL3 rfl; have cL4 := hL4.cell; have fL4 := hL4.frozen
       have hr5 := (hr3.keep hk4 (by decide)).setO (lb := w0.heap.size) (by omega) (.slice (some ⟨g4, 0, none⟩) M4.length cap4); have hO5 := hO4.set hL4 (.slice (some ⟨g4, 0, none⟩) M4.length cap4); have hL5 := hL4.set (.slice (some ⟨g4, 0, none⟩) M4.length cap4); have hb5 := hb4.setCell (p := ⟨w0.heap.size, 0, none⟩) (by show w.heap.size ≤ w0.heap.size; omega) (.slice (some ⟨g4, 0, none⟩) M4.length cap4); have d3 := hr5.cell (i := 3) rfl; have d6 := hr5.cell (i := 6) rfl; clear hown4 hgrow4 hO3 hr3 hM3 hL3 hb3 cL fL hO4 hb4 hk4 hL4)
    | (refine ⟨trivial, ?_⟩; gi_at_call 38; refine (chunk_in _ bc len capc c hc _).mono ?_; rintro r w6 ⟨rfl, hw6⟩; obtain rfl := hw6))
  have hL6 := (hL5.alloc (.cells #[.slice bc len capc] 29)).alloc (.cells #[.int .i64 (c : Int)] 3)
  have hO6 := (hO5.alloc (.cells #[.slice bc len capc] 29)).alloc (.cells #[.int .i64 (c : Int)] 3)
  have hb6 := (hb5.alloc hb5.size (.cells #[.slice bc len capc] 29)).alloc (Nat.le_trans hb5.size (by simp)) (.cells #[.int .i64 (c : Int)] 3)
  have hS6 := (Boxed.new (w4.setCell ⟨w0.heap.size, 0, none⟩ (.slice (some ⟨g4, 0, none⟩) M4.length cap4)) 29 (.slice bc len capc)).alloc (.cells #[.int .i64 (c : Int)] 3)
  have hN6 := Boxed.new ((w4.setCell ⟨w0.heap.size, 0, none⟩ (.slice (some ⟨g4, 0, none⟩) M4.length cap4)).alloc (.cells #[.slice bc len capc] 29)) 3 (.int .i64 (c : Int))
  simp only [World.size_alloc, World.size_setCell] at hS6 hN6
  have hs4 := hL5.lt
  have hs5 := hb5.size
  simp only [World.size_setCell] at hs4 hs5
  clear cL4 fL4 hr5 d3 d6 hmk hO5 hb5 hL5
  obtain ⟨W6, eW6⟩ : ∃ W6, ((w4.setCell ⟨w0.heap.size, 0, none⟩ (.slice (some ⟨g4, 0, none⟩) M4.length cap4)).alloc (.cells #[.slice bc len capc] 29)).alloc (.cells #[.int .i64 (c : Int)] 3) = W6 := ⟨_, rfl⟩
  have hsz6 : W6.heap.size = w4.heap.size + 2 := by rw [← eW6]; simp
  rw [eW6] at hL6 hO6 hb6 hS6 hN6 ⊢
  clear eW6
  refine wpIn_rangeFunc_ownG rfl (by omega) (gf := 64) (lb := #[.pointer (some ⟨w4.heap.size, 0, none⟩), .pointer (some ⟨w4.heap.size + 1, 0, none⟩)]) rfl trivial (enters_of Tryd.func64 (by kernel_rfl) rfl)
    (chunk_stops 5 (by omega) w4.heap.size (w4.heap.size + 1) w.heap.size b off len capc c hc hc2 (by omega) hcapc bc hba W6 hS6 hN6) KpC.trans
    (fun W l o o' h1 h2 h3 h4 => ⟨belowK_b (w := w) (Nat.le_refl _) W l o o' (by omega) h2 h3 h4, World.putObj_heap_other (by omega), World.putObj_heap_other (by omega)⟩) (Below.refl _ _) (fun _ => rfl)
    (fun pre W => ((∃ v, Boxed W w0.heap.size 29 v ∧ W.ownsRow w.heap.size 5 1 v (LL M4 c col pre).length (u8V (LL M4 c col pre)) ∧ True) ∧ (Boxed W w4.heap.size 29 (.slice bc len capc) ∧ Boxed W (w4.heap.size + 1) 3 (.int .i64 (c : Int)))) ∧ Below w.heap.size w W)
    (fun _ _ _ => False)
    (OwnFrom.and (OwnFrom.and (Own.from (holdsRow_own w.heap.size w0.heap.size 29 5 1 (fun pre => (LL M4 c col pre).length) (fun pre => u8V (LL M4 c col pre)) (fun _ _ => True)) _) (OwnFrom.and (Own.from (boxed_own w4.heap.size 29 (fun _ => .slice bc len capc)) _) (Own.from (boxed_own (w4.heap.size + 1) 3 (fun _ => .int .i64 (c : Int))) _))) (ownFrom_below (Nat.le_refl _) (by omega)))
    (fun _ _ _ _ _ hs _ _ => hs)
    ⟨⟨⟨_, hL6, by have := hO6; unfold OwnB at this; simpa [LL] using this, trivial⟩, hS6, hN6⟩, hb6⟩
    (fun x => { tmps := #[.agg #[.int .i64 (k : Int), .int .i64 (n : Int), .int .i64 (i : Int), .int .i64 (c : Int), vN, vS, .slice bc len capc], .slice (some ⟨gm, 0, none⟩) ml capm, .pointer (some ⟨w.heap.size, 0, none⟩), undef, .slice none 0 0, .int .i64 ((f : Int)), .pointer (some ⟨w0.heap.size, 0, none⟩), .slice (some ⟨b, off + x.1 * c, none⟩) (min c (len - x.1 * c)) (min c (len - x.1 * c)), .pointer (some ⟨w.heap.size, 6, none⟩), .slice bc len capc, .int .i64 ((len : Int)), .pointer (some ⟨w.heap.size, 3, none⟩), .int .i64 ((c : Int)), .int .i64 ((len : Int) + (c : Int)), .int .i64 ((len : Int) + (c : Int) - 1), .pointer (some ⟨w.heap.size, 3, none⟩), .int .i64 ((c : Int)), .int .i64 ((f : Int)), .slice (some ⟨gm, 0, none⟩) ml capm, .int .i64 ((ml : Int)), .int .i64 (32 + (ml : Int)), .pointer (some ⟨w.heap.size, 6, none⟩), .slice bc len capc, .int .i64 ((len : Int)), .int .i64 (32 + (ml : Int) + (len : Int)), .int .i64 ((f : Int)), .int .i64 ((f : Int) * 8), .int .i64 (32 + (ml : Int) + (len : Int) + (f : Int) * 8), .int .i64 (32 + (ml : Int) + (len : Int) + (f : Int) * 8 + 4), .slice (some ⟨w.heap.size + 1, 0, none⟩) 0 CP, .slice (some ⟨w.heap.size + 1, 0, none⟩) 0 CP, .agg #[.int .i64 (k : Int), .int .i64 (n : Int), .int .i64 (i : Int), .int .i64 (c : Int), vN, vS, .slice bc len capc], .slice (some ⟨gm, 0, none⟩) ml capm, .int .i64 ((ml : Int)), .int .i64 ((ml : Int) - 8), .slice (some ⟨g2, 0, none⟩) H.length cap2, .slice (some ⟨g2, 0, none⟩) H.length cap2, .slice (some ⟨gm, 0, none⟩) ml capm, .slice (some ⟨g4, 0, none⟩) M4.length cap4, .pointer (some ⟨w.heap.size, 6, none⟩), .slice bc len capc, .pointer (some ⟨w.heap.size, 3, none⟩), .int .i64 ((c : Int)), .func (.func 64) #[] #[.pointer (some ⟨w4.heap.size, 0, none⟩), .pointer (some ⟨w4.heap.size + 1, 0, none⟩)], .slice (some ⟨b, off + x.1 * c, none⟩) (min c (len - x.1 * c)) (min c (len - x.1 * c)), undef, undef, undef, undef, undef, undef, undef, undef], defers := [] }) ?assign ?body ?done ?stop
  case assign =>
    intro l x W K hK
    gi_wp2
    exact hK
  case body =>
    rintro l pre ⟨k', hk'⟩ W ⟨⟨⟨v, hv, hrow, _⟩, hsB, hnB⟩, hB⟩ hlt
    have hO : OwnB w.heap.size W v (LL M4 c col pre) := hrow
    have hLb : (LL M4 c col pre).length ≤ 10000000000 := by
      have h1 := LL_length M4 c col pre
      have h2 := (nFr_lt hc).1 hlt
      have h3 : pre.length * 1 ≤ pre.length * c := Nat.mul_le_mul_left _ hc
      have h4 : pre.length * (c + 8) ≤ 65536 * (65536 + 8) := Nat.mul_le_mul (by omega) (by omega)
      have := hM4l.out
      omega
    have LS : Hid _ := LL_snoc M4 c col pre ⟨k', hk'⟩
    have hk'0 : Hid (k' * c < len) := hk'
    have hbb : b < w.heap.size := cell_lt (hby 0 (by omega))
    have hbW : Byt W b off col := hby.later (.of_below (S := fun _ => False) hB) hbb id
    have hTW : Tab W := hT.below hB hpos
    have hfB : Hid (frameB c col k' = sealB (part col (k' * c) (min c (len - k' * c)))) := by
      show _ = _
      unfold frameB
      rw [hcl]
    have hfl : (part col (k' * c) (min c (len - k' * c))).length = min c (len - k' * c) := part_length (by omega)
    have hfr : Byt W b (off + k' * c) (part col (k' * c) (min c (len - k' * c))) := hbW.part (by omega)
    obtain ⟨L, eL⟩ : ∃ L, LL M4 c col pre = L := ⟨_, rfl⟩
    obtain ⟨p, ep⟩ : ∃ p, k' * c = p := ⟨_, rfl⟩
    have hsW := hB.size
    simp only [eL, ep] at hO hLb LS hfB hfl hfr hk' ⊢
    obtain ⟨m, em⟩ : ∃ m, min c (len - p) = m := ⟨_, rfl⟩
    have hm1 : 1 ≤ m := by omega
    have hm2 : m ≤ 65536 := by omega
    simp only [em] at hfB hfl hfr ⊢
    obtain ⟨fr, efr⟩ : ∃ fr, part col p m = fr := ⟨_, rfl⟩
    simp only [efr] at hfB hfl hfr
    clear eL ep em efr hrow hlt hbW hby
    have hc0 := hv.cell
    gi_wp2_with (first
      | (gi_at_builtin; refine wpListIn_append_own _ rfl _ _ 29 rfl w.heap.size 5 i0 (.int .u8 0) 1 1 Tryd.underlying29 hi0 hz0 hz1 hz2 rfl (by decide) _ _ _ rfl hO ⟨b, off + p, none⟩ m m (u8V fr) rfl (by rw [u8V_length]; omega) hfr.news (u8V_one _) (by unfold maxLen; omega) (by omega) hB.size ?_; intro v1 w1 hown1 hgrow1 _; have hO1 : OwnB w.heap.size w1 v1 (L ++ fr) := OwnB.more hown1 rfl; have hk1 := hO.keeps hgrow1; have hb1 := hO.grown hgrow1 hB.size; obtain ⟨L1, eL1⟩ : ∃ L1, L ++ fr = L1 := ⟨_, rfl⟩; have EL1 : Hid (L ++ fr = L1) := eL1; have hL1b : L1.length ≤ 20000000000 := (by rw [← eL1, List.length_append]; omega); have hL1p : 0 < L1.length := (by rw [← eL1, List.length_append]; omega); rw [eL1] at hO1; clear eL1; obtain ⟨g1, cap1, rfl, _, _, _, _, _⟩ := owns_byt hO1 hL1p; have hv1 : Boxed w1 w0.heap.size 29 _ := hk1.same _ _ hv rfl; have e1 := hv1.cell; have e2 := hv1.frozen
         have hO2 := hO1.set hv1 (.slice (some ⟨g1, 0, none⟩) L1.length cap1); have hv2 := hv1.set (.slice (some ⟨g1, 0, none⟩) L1.length cap1); have hb2 := hb1.setCell (p := ⟨w0.heap.size, 0, none⟩) (by show w.heap.size ≤ w0.heap.size; omega) (.slice (some ⟨g1, 0, none⟩) L1.length cap1); have hs2 := Boxed.other (hk1.same _ _ hsB rfl : Boxed w1 w4.heap.size 29 _) (B' := w0.heap.size) (by omega) (.slice (some ⟨g1, 0, none⟩) L1.length cap1); have hn2 := Boxed.other (hk1.same _ _ hnB rfl : Boxed w1 (w4.heap.size + 1) 3 _) (B' := w0.heap.size) (by omega) (.slice (some ⟨g1, 0, none⟩) L1.length cap1); have hko2 := hk1.others.trans (KeepsOthers.setCell w1 ⟨w0.heap.size, 0, none⟩ (.slice (some ⟨g1, 0, none⟩) L1.length cap1))
         have hz2' := hb2.size; have hf2 := hfr.later (.of_below (S := fun _ => False) hb2) hbb id; have K2 := appSum_any w.heap.size _ L1 (by omega) _ hO2 (by omega) b (off + p) m fr (by omega) hf2 (hTW.below hb2 hpos); rw [hfl] at K2; clear hown1 hgrow1 hO1 hk1 hb1 hf2 hfr)
      | (refine ⟨trivial, ?_⟩; gi_at_call 29; refine (CallsIn.inRound l (callsIn_wide.2 K2)).mono ?_; clear K2; rintro r w3 ⟨v3, rfl, hO3, hb3, hk3⟩; obtain ⟨L3, eL3⟩ : ∃ L3, L1 ++ leB 8 (sumOf fr) = L3 := ⟨_, rfl⟩; have EL3 : Hid (L1 ++ leB 8 (sumOf fr) = L3) := eL3; have hL3p : 0 < L3.length := (by rw [← eL3, List.length_append]; omega); rw [eL3] at hO3; clear eL3; obtain ⟨g3, cap3, rfl, _, _, _, _, _⟩ := owns_byt hO3 hL3p; have hv3 : Boxed w3 w0.heap.size 29 _ := hk3.same _ _ hv2 rfl; have e3 := hv3.cell; have e4 := hv3.frozen))
    refine ⟨(hko2.trans (hk3.others.trans (KeepsOthers.setCell _ _ _))).from _, ?_, ⟨⟨_, hv3.set _, ?_, trivial⟩, Boxed.other (hk3.same _ _ hs2 rfl : Boxed w3 w4.heap.size 29 _) (by omega) _, Boxed.other (hk3.same _ _ hn2 rfl : Boxed w3 (w4.heap.size + 1) 3 _) (by omega) _⟩, hB.trans ((hb2.trans hb3).setCell (p := ⟨w0.heap.size, 0, none⟩) (by show w.heap.size ≤ w0.heap.size; omega) _)⟩
    · exact ⟨(hb2.trans hb3).setCell (p := ⟨w0.heap.size, 0, none⟩) (by show w.heap.size ≤ w0.heap.size; omega) _, (Boxed.other (hk3.same _ _ hs2 rfl : Boxed w3 w4.heap.size 29 _) (B' := w0.heap.size) (by omega) _).trans hsB.symm, (Boxed.other (hk3.same _ _ hn2 rfl : Boxed w3 (w4.heap.size + 1) 3 _) (B' := w0.heap.size) (by omega) _).trans hnB.symm⟩
    · have hfin : LL M4 c col (pre ++ [⟨k', hk'0.out⟩]) = L3 := by
        rw [LS.out, hfB.out, ← EL3.out, ← EL1.out]
        unfold sealB
        rw [List.append_assoc]
      rw [hfin]
      exact hO3.set hv3 _
  case done =>
    rintro D ys W hD hys ⟨⟨⟨v, hv, hrow, _⟩, _, _⟩, hB⟩ hK
    have hall := LL_all M4 c col ys _ hys
    have hO : OwnB w.heap.size W v (M4 ++ framesTo c col (nFr c len)) := by rw [← hall]; exact hrow
    have hLb : (M4 ++ framesTo c col (nFr c len)).length ≤ 10000000000 := by
      rw [← hall]
      have h1 := LL_length M4 c col ys
      have h2 : ys.length = nFr c len := by have := congrArg List.length hys; simpa using this
      have h5 : nFr c len ≤ len + 1 := by
        unfold nFr
        have : (len + c - 1) / c ≤ (len * c + c) / c := Nat.div_le_div_right (by have : len * 1 ≤ len * c := Nat.mul_le_mul_left _ hc; omega)
        rw [← Nat.succ_mul, Nat.mul_div_cancel _ (by omega)] at this
        omega
      have h4 : ys.length * (c + 8) ≤ 65537 * (65536 + 8) := Nat.mul_le_mul (by omega) (by omega)
      have := hM4l.out
      omega
    obtain ⟨L, eL⟩ : ∃ L, M4 ++ framesTo c col (nFr c len) = L := ⟨_, rfl⟩
    have EL : Hid (M4 ++ framesTo c col (nFr c len) = L) := eL
    simp only [eL] at hO hLb
    have hc0 := hv.cell
    clear eL hall hrow hys
    gi_wp2_with (first | (gi_at_builtin; refine wpListIn_append_string _ rfl _ _ 29 9 rfl w.heap.size 5 i0 Tryd.underlying29 Tryd.underlying9 hi0 hz0 hz1 hz2 _ _ _ rfl hO ⟨#[68, 79, 78, 69]⟩ rfl (by show _ + 4 ≤ maxLen; unfold maxLen; omega) (by show _ + 4 ≤ _; omega) hB.size ?_; intro v9 w9 hown9 hgrow9; have hO9 : OwnB w.heap.size w9 v9 (L ++ [68, 79, 78, 69]) := OwnB.more hown9 rfl; have hk9 := hO.keeps hgrow9; have hb9 := hO.grown hgrow9 hB.size))
    have hK9 : w9.heap[D]? = some (.deferred (some [])) := hk9.same _ _ hK rfl
    refine ⟨by simp, .inl ⟨_, _, rfl, run_takeDeferred hK9, ?_⟩⟩
    refine ⟨_, results_tmp rfl _ _ _, v9, rfl, ?_, (hB.trans hb9).trans (belowK_b (w := w) (Nat.le_refl _) w9 D _ _ (by omega) hK9 rfl rfl)⟩
    rw [EL.out]
    exact ownsRow_putObj hO9 _ hK9 rfl
  case stop =>
    rintro D c pre W _ _ h _
    exact h.elim
end Go.Proofs.YtkpcmfgeanlcnabDoor

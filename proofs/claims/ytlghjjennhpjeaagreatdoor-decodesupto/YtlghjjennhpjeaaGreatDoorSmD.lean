/-
  What can be read is what is written of it.
-/
import Derived.Test.YtlghjjennhpjeaaGreatDoorPwB
import Derived.Test.YtlghjjennhpjeaaGreatDoorGlA
import Derived.Test.YtlghjjennhpjeaaGreatDoorSvC
import Derived.Test.YtlghjjennhpjeaaGreatDoorEnS
import Derived.Test.YtlghjjennhpjeaaGreatDoorAdA
namespace Go.Proofs.YtlghjjennhpjeaaGreatDoor

theorem part_split (z : List UInt8) (a n m : Nat) : part z a (n + m) = part z a n ++ part z (a + n) m := by
  unfold part
  rw [List.take_add, List.drop_drop]
theorem part_leB {z : List UInt8} {a n : Nat} (h : a + n ≤ z.length) : part z a n = leB n (le z a n) := by
  have h1 := leB_le (part z a n)
  rw [part_length h, le_part h] at h1
  exact h1.symm
theorem seal_inv {z : List UInt8} {a n : Nat} (h : sealE z a n = none) : a + n + 8 ≤ z.length ∧ part z a (n + 8) = sealB (part z a n) := by
  have hl := sealE_len h
  refine ⟨hl, ?_⟩
  unfold sealE at h
  rw [if_neg (by omega)] at h
  split at h
  · rename_i e
    rw [part_split, e]
    rfl
  · cases h
theorem fix_inv (z : List UInt8) : ∀ (ws : List UInt8) (a : Nat), a ≤ z.length → fixE z a ws = none → a + ws.length ≤ z.length ∧ part z a ws.length = ws
  | [], a, ha, _ => ⟨ha, by simp [part]⟩
  | c :: ws, a, _, h => by
    unfold fixE at h
    split at h
    · cases h
    · rename_i hl
      split at h
      · rename_i hc
        obtain ⟨h1, h2⟩ := fix_inv z ws (a + 1) (by omega) h
        refine ⟨by rw [List.length_cons]; omega, ?_⟩
        rw [List.length_cons, Nat.add_comm, part_split, h2, part_leB (by omega)]
        show UInt8.ofNat ((bAt z a + 256 * 0) % 256) :: ([] ++ ws) = _
        rw [hc]
        have := UInt8.toNat_lt c
        rw [show (c.toNat + 256 * 0) % 256 = c.toNat by omega]
        simp
      · cases h
theorem loop_inv (u : List UInt8) : ∀ (c a : Nat) (ns : List (List UInt8)) (zs : List Nat) (ns' : List (List UInt8)) (zs' : List Nat), a ≤ u.length → loopP u c a ns zs = .ok (ns', zs') →
    ∃ ps : List (List UInt8 × Nat), ps.length = c ∧ ns' = ns ++ ps.map Prod.fst ∧ zs' = zs ++ ps.map Prod.snd ∧ u.drop a = blobsB ps ∧ Asc ns (ps.map Prod.fst)
  | 0, a, ns, zs, ns', zs', ha, h => by
    unfold loopP at h
    split at h
    · cases h
    · cases h
      refine ⟨[], rfl, by simp, by simp, ?_, trivial⟩
      rw [List.drop_eq_nil_of_le (by omega)]
      rfl
  | c + 1, a, ns, zs, ns', zs', ha, h => by
    unfold loopP at h
    cases hb : blob1 u a ns zs with
    | error e => rw [hb] at h; cases h
    | ok x =>
      obtain ⟨nm, z⟩ := x
      rw [hb] at h
      simp only at h
      unfold blob1 at hb
      split at hb
      · cases hb
      · rename_i q1
        split at hb
        · cases hb
        · rename_i q2
          split at hb
          · cases hb
          · rename_i q3
            simp only [Except.ok.injEq, Prod.mk.injEq] at hb
            obtain ⟨e1, e2⟩ := hb
            have hl : nm.length = le u a 2 := by rw [← e1]; exact part_length (by omega)
            obtain ⟨ps, g1, g2, g3, g4, g5⟩ := loop_inv u c _ _ _ _ _ (by rw [hl]; omega) h
            refine ⟨(nm, z) :: ps, by simp [g1], by simp [g2], by simp [g3], ?_, ⟨by simp only; omega, fun h0 => ?_, g5⟩⟩
            · have d1 : u.drop a = part u a 2 ++ (part u (a + 2) (le u a 2) ++ (part u (a + 2 + le u a 2) 4 ++ u.drop (a + (6 + nm.length)))) := by
                have t : ∀ b n, u.drop b = part u b n ++ u.drop (b + n) := fun b n => by
                  unfold part
                  rw [← List.drop_drop, List.take_append_drop]
                rw [t a 2, t (a + 2) (le u a 2), t (a + 2 + le u a 2) 4, hl, show a + 2 + le u a 2 + 4 = a + (6 + le u a 2) by omega]
              rw [d1, g4, part_leB (a := a) (n := 2) (by omega), e1, part_leB (a := a + 2 + le u a 2) (n := 4) (by omega), e2, ← hl]
              simp [blobsB, blobB]
            · have := fun q => q2 ⟨h0, q⟩
              rw [e1] at this
              simpa using this
theorem pad_inv {en : Int} : ∀ {p : List UInt8} {a m : Nat}, padE en a m p = none → ∀ j, j < p.length → en ≤ ((m + j : Nat) : Int) → bAt p j = 0
  | [], _, _, _, j, hj, _ => by simp at hj
  | b :: p, a, m, h, j, hj, he => by
    unfold padE at h
    split at h
    · rename_i q
      cases j with
      | zero =>
        rcases q with q | q
        · omega
        · simpa [bAt] using q
      | succ j =>
        rw [bAt_cons]
        exact pad_inv h j (by simpa using hj) (by omega)
    · cases h
theorem frames_inv {z : List UInt8} {low : Bool} {c ln : Nat} {en : Int} (hc : 1 ≤ c) : ∀ (f a : Nat) (col col' : List UInt8) (a' : Nat), framesE z low c ln en f a col = .ok (col', a') → col.length ≤ ln → ln ≤ f + col.length → a ≤ z.length →
    ∃ r, col' = col ++ r ∧ col'.length = ln ∧ a ≤ a' ∧ a' ≤ z.length ∧ part z a (a' - a) = (frL c f r).flatten ∧ (low = true → ∀ j, j < r.length → en ≤ ((col.length + j : Nat) : Int) → bAt r j = 0)
  | 0, a, col, col', a', h, h1, h2, h3 => by
    unfold framesE at h
    cases h
    exact ⟨[], by simp, by omega, Nat.le_refl _, h3, by simp [part, frL], fun _ j hj => by simp at hj⟩
  | f + 1, a, col, col', a', h, h1, h2, h3 => by
    unfold framesE at h
    split at h
    · cases h
      exact ⟨[], by simp, by omega, Nat.le_refl _, h3, by simp [part, frL], fun _ j hj => by simp at hj⟩
    · rename_i hlt
      cases hs : sealE z a (min (ln - col.length) c) with
      | some e => rw [hs] at h; cases h
      | none =>
        rw [hs] at h
        simp only at h
        obtain ⟨s1, s2⟩ := seal_inv hs
        cases hp : (if low = true then padE en a col.length (part z a (min (ln - col.length) c)) else none) with
        | some e => rw [hp] at h; cases h
        | none =>
          rw [hp] at h
          simp only at h
          have hpl : (part z a (min (ln - col.length) c)).length = min (ln - col.length) c := part_length (by omega)
          obtain ⟨r, g1, g2, g3, g4, g5, g6⟩ := frames_inv hc f _ _ _ _ h (by rw [List.length_append, hpl]; omega) (by rw [List.length_append, hpl]; omega) (by omega)
          have hr : r.length = ln - col.length - min (ln - col.length) c := by
            have := congrArg List.length g1
            rw [List.length_append, List.length_append, hpl, g2] at this
            omega
          have ht : (part z a (min (ln - col.length) c) ++ r).take c = part z a (min (ln - col.length) c) ∧ (part z a (min (ln - col.length) c) ++ r).drop c = r := by
            rcases Nat.lt_or_ge (ln - col.length) c with q | q
            · have : r = [] := List.length_eq_zero_iff.1 (by omega)
              rw [this, List.append_nil, List.take_of_length_le (by omega), List.drop_eq_nil_of_le (by omega)]
              exact ⟨rfl, rfl⟩
            · have : c = (part z a (min (ln - col.length) c)).length := by omega
              constructor
              · conv => lhs; arg 1; rw [this]
                simp
              · conv => lhs; arg 1; rw [this]
                simp
          refine ⟨part z a (min (ln - col.length) c) ++ r, by rw [g1, List.append_assoc], g2, by omega, g4, ?_, fun hlow j hj he => ?_⟩
          · unfold frL
            rw [if_neg, ht.1, ht.2, List.flatten_cons, ← g5, ← s2]
            · rw [show a' - a = (min (ln - col.length) c + 8) + (a' - (a + min (ln - col.length) c + 8)) by omega, part_split, Nat.add_assoc a]
            · intro e
              have := congrArg List.length e
              rw [List.length_append, hpl] at this
              simp at this
              omega
          · rcases Nat.lt_or_ge j (min (ln - col.length) c) with q | q
            · rw [bAt_left (by omega)]
              rw [if_pos hlow] at hp
              exact pad_inv hp j (by omega) he
            · rw [bAt_right (by omega), hpl]
              refine g6 hlow _ (by rw [List.length_append, hpl] at hj; omega) ?_
              rw [List.length_append, hpl]
              omega
theorem zip_self : ∀ (ps : List (List UInt8 × Nat)), (ps.map Prod.fst).zip (ps.map Prod.snd) = ps
  | [] => rfl
  | p :: ps => by
    rw [List.map_cons, List.map_cons, List.zip_cons_cons, zip_self ps]
/-- A shard that was read, as one that is written. -/
def Shd.sh (d : Shd) : Sh := ⟨d.k, d.n, d.i, d.c, d.names, d.sizes.map Int.ofNat, d.col⟩
theorem toNat_ofNats (l : List Nat) : (l.map Int.ofNat).map Int.toNat = l := by
  rw [List.map_map]
  conv => rhs; rw [← List.map_id l]
  rfl
set_option maxHeartbeats 1000000 in
theorem parse_inv {z : List UInt8} {d : Shd} (h : parseE z = .ok d) : d.sh.Fine ∧ d.sh.Listed ∧ d.sh.Few ∧ d.sh.Long ∧ ¬ d.sh.Bad ∧ wrB d.sh = z := by
  unfold parseE at h
  cases hh : headE z with
  | some e => rw [hh] at h; cases h
  | none =>
    rw [hh] at h
    simp only at h
    cases hn : namesE z (le z 14 4) with
    | error e => rw [hn] at h; cases h
    | ok x =>
      obtain ⟨ns, zs⟩ := x
      rw [hn] at h
      simp only at h
      split at h
      · rename_i hlen
        split at h
        · cases h
        · rename_i col a hf
          split at h
          · cases h
          · rename_i ho
            cases h
            -- the head
            unfold headE at hh
            cases h1 : fixE z 0 magic1 with
            | some e => rw [h1] at hh; cases hh
            | none =>
              rw [h1] at hh
              cases h2 : sealE z 0 24 with
              | some e => rw [h2] at hh; cases hh
              | none =>
                rw [h2] at hh
                have hr : headR none (le z 6 1) (le z 7 1) (le z 8 1) (le z 9 1) (le z 10 4) (le z 14 4) (le z 18 4) (le z 22 2) = none := hh
                obtain ⟨k1, k2, n1, n2, iN, z0, c1, c2, m1, m2, l1, y0⟩ := headR_none hr
                obtain ⟨s1, s2⟩ := seal_inv h2
                obtain ⟨_, f2⟩ := fix_inv z magic1 0 (by omega) h1
                -- the manifest
                unfold namesE at hn
                cases h3 : sealE z 32 (le z 14 4) with
                | some e => rw [h3] at hn; cases hn
                | none =>
                  rw [h3] at hn
                  simp only at hn
                  obtain ⟨t1, t2⟩ := seal_inv h3
                  split at hn
                  · cases hn
                  · rename_i hcnt
                    have hu : (part z 32 (le z 14 4)).length = le z 14 4 := part_length (by omega)
                    have hA : At z 32 (part z 32 (le z 14 4)) := At.of_part z (by omega)
                    have e4 : le z 32 4 = le (part z 32 (le z 14 4)) 0 4 := by
                      have := hA.num 4 0 (by omega)
                      rwa [Nat.add_zero] at this
                    rw [show (36 : Nat) = 32 + 4 from rfl, loop_blobs hA hu _ 4 [] [] (by omega) (by simp)] at hn
                    cases hl : loopP (part z 32 (le z 14 4)) (le z 32 4) 4 [] [] with
                    | error e => rw [hl] at hn; cases hn
                    | ok x =>
                      rw [hl] at hn
                      cases hn
                      have hsum := loopP_sum _ _ _ _ _ (by simp) hl
                      obtain ⟨ps, g1, g2, g3, g4, g5⟩ := loop_inv _ _ _ _ _ _ _ (by omega) hl
                      rw [List.nil_append] at g2 g3
                      have hnl : ns.length = le z 32 4 := by rw [g2, List.length_map, g1]
                      have hzl : zs.length = le z 32 4 := by rw [g3, List.length_map, g1]
                      have htot : tot (zs.map Int.ofNat) = zs.sum := by unfold tot; rw [toNat_ofNats]
                      have hman : manTo ns (zs.map Int.ofNat) ns.length = part z 32 (le z 14 4) := by
                        rw [man_bytes (by rw [List.length_map]; omega), toNat_ofNats, g2, g3, zip_self, ← g2, hnl, ← g4, e4]
                        have h0 := part_leB (z := part z 32 (le z 14 4)) (a := 0) (n := 4) (by omega)
                        rw [← h0]
                        unfold part
                        rw [List.drop_zero, List.take_append_drop]
                      -- the frames
                      obtain ⟨r, q1, q2, q3, q4, q5, q6⟩ := frames_inv c1 _ _ _ _ _ hf (by simp) (by simp) (by omega)
                      rw [List.nil_append] at q1
                      subst q1
                      -- the end
                      cases h5 : fixE z a magic2 with
                      | some e => rw [h5] at ho; cases ho
                      | none =>
                        rw [h5] at ho
                        have hz : z.length ≤ a + 4 := by
                          rcases Nat.lt_or_ge (a + 4) z.length with q | q
                          · have : mustE (decide (z.length ≤ a + 4)) 9 (a + 4) = none := ho
                            rw [decide_eq_false (by omega)] at this
                            cases this
                          · exact q
                        obtain ⟨v1, v2⟩ := fix_inv z magic2 a q4 h5
                        have v1' : a + 4 ≤ z.length := v1
                        have hLong : le z 18 4 = lenC (le z 6 1) zs.sum := by rw [hlen, lengthS_small hsum]
                        refine ⟨⟨?_, ?_, ?_, ?_, ?_, ?_, ?_⟩, ⟨?_, ?_, ?_⟩, ⟨?_, ?_, ?_⟩, ?_, ?_, ?_⟩
                        · show (1 : Int) ≤ (le z 6 1 : Nat); omega
                        · show ((le z 6 1 : Nat) : Int) ≤ (le z 7 1 : Nat); omega
                        · show ((le z 7 1 : Nat) : Int) ≤ 128; omega
                        · show (0 : Int) ≤ (le z 8 1 : Nat); omega
                        · show ((le z 8 1 : Nat) : Int) < (le z 7 1 : Nat); omega
                        · show (1 : Int) ≤ (le z 10 4 : Nat); omega
                        · show ((le z 10 4 : Nat) : Int) ≤ 65536; omega
                        · show ns.length = (zs.map Int.ofNat).length
                          rw [List.length_map]; omega
                        · show NamesOk ns
                          have := of_asc (ps.map Prod.fst) [] (fun i hi => by simp at hi) g5
                          rwa [List.nil_append, ← g2] at this
                        · intro i hi
                          have hi' : i < zs.length := by simpa [Shd.sh] using hi
                          simp [Shd.sh, List.getD_eq_getElem?_getD, List.getElem?_eq_getElem hi']
                        · show ns.length ≤ 1000; omega
                        · show tot (zs.map Int.ofNat) ≤ 65536
                          rw [htot]; exact hsum
                        · show manN ns ≤ 300000
                          have := manB_length (⟨0, 0, 0, 0, ns, zs.map Int.ofNat, []⟩ : Sh)
                          have e : manB (⟨0, 0, 0, 0, ns, zs.map Int.ofNat, []⟩ : Sh) = part z 32 (le z 14 4) := hman
                          rw [e, hu] at this
                          have : le z 14 4 = manN ns := this
                          omega
                        · show col.length = lenC (le z 6 1) (tot (zs.map Int.ofNat))
                          rw [htot, q2, hLong]
                        · rintro ⟨b1, m, b2, b3, b4⟩
                          have b1' : ((le z 8 1 : Nat) : Int) < (le z 6 1 : Nat) := b1
                          have b2' : m < col.length := b2
                          have b3' : tot (zs.map Int.ofNat) ≤ le z 8 1 * lenC (le z 6 1) (tot (zs.map Int.ofNat)) + m := b3
                          rw [htot] at b3'
                          refine b4 (q6 (by simp; omega) m b2' ?_)
                          have e1 : totalS zs = zs.sum := by unfold totalS; rw [if_pos hsum]
                          rw [e1, lengthS_small hsum]
                          simp only [List.length_nil, Nat.zero_add]
                          omega
                        · have w1 : headB (Shd.sh ⟨le z 6 1, le z 7 1, le z 8 1, le z 10 4, ns, zs, col⟩) (le z 14 4) = part z 0 24 := by
                            have e1 : part z 0 24 = part z 0 6 ++ (part z 6 1 ++ (part z 7 1 ++ (part z 8 1 ++ (part z 9 1 ++ (part z 10 4 ++ (part z 14 4 ++ (part z 18 4 ++ part z 22 2))))))) := by
                              exact (part_split z 0 6 18).trans (congrArg _ ((part_split z 6 1 17).trans (congrArg _ ((part_split z 7 1 16).trans (congrArg _ ((part_split z 8 1 15).trans (congrArg _ ((part_split z 9 1 14).trans (congrArg _ ((part_split z 10 4 10).trans (congrArg _ ((part_split z 14 4 6).trans (congrArg _ (part_split z 18 4 2))))))))))))))
                            have f2' : part z 0 6 = [67, 65, 73, 82, 78, 49] := f2
                            rw [e1, f2', part_leB (a := 6) (by omega), part_leB (a := 7) (by omega), part_leB (a := 8) (by omega), part_leB (a := 9) (by omega), part_leB (a := 10) (by omega), part_leB (a := 14) (by omega), part_leB (a := 18) (by omega), part_leB (a := 22) (by omega), z0, y0]
                            unfold headB
                            show [67, 65, 73, 82, 78, 49] ++ ([b8 (le z 6 1 : Nat), b8 (le z 7 1 : Nat), b8 (le z 8 1 : Nat), 0] ++ (leB 4 (le z 10 4) ++ (leB 4 (le z 14 4) ++ (leB 4 col.length ++ [0, 0])))) = _
                            rw [q2]
                            rfl
                          have w2 : manB (Shd.sh ⟨le z 6 1, le z 7 1, le z 8 1, le z 10 4, ns, zs, col⟩) = part z 32 (le z 14 4) := hman
                          unfold wrB
                          rw [w2, hu, w1, ← s2, ← t2]
                          show part z 0 32 ++ part z 32 (le z 14 4 + 8) ++ framesTo (le z 10 4) col (nFr (le z 10 4) col.length) ++ [68, 79, 78, 69] = z
                          rw [← frL_flat c1 (le z 18 4) col (by omega), ← q5]
                          have v2' : part z a 4 = [68, 79, 78, 69] := v2
                          rw [← v2']
                          have q3' : 32 + le z 14 4 + 8 ≤ a := q3
                          rw [show part z 0 32 = part z 0 (0 + 32) from rfl]
                          have j1 := part_split z 0 32 (le z 14 4 + 8)
                          have j2 := part_split z 0 (32 + (le z 14 4 + 8)) (a - (32 + le z 14 4 + 8))
                          have j3 := part_split z 0 a 4
                          simp only [Nat.zero_add] at j1 j2 j3 ⊢
                          rw [← j1]
                          rw [show 32 + (le z 14 4 + 8) = 32 + le z 14 4 + 8 by omega] at j2 ⊢
                          rw [← j2, show 32 + le z 14 4 + 8 + (a - (32 + le z 14 4 + 8)) = a by omega, ← j3, show a + 4 = z.length by omega]
                          unfold part
                          simp
      · cases h
end Go.Proofs.YtlghjjennhpjeaaGreatDoor

/-
  One call of archive.Decode beside those that leave.
-/
namespace Go.Proofs.YtlghjjennhpjeaaGreatDoor
open Go.RowKit Go.Deep Go.Lf Go.Conc Go.ConcN Go.Gh Go.Hp

/-- A shard that Parse may tell. -/
structure ShG (d : Shd) : Prop where
  fine : d.sh.Fine
  listed : d.sh.Listed
  few : d.sh.Few
  long : d.sh.Long
theorem oneA_eq {s t : Shd} (h : oneA s t = true) : t.k = s.k ∧ t.n = s.n ∧ t.c = s.c ∧ t.names = s.names ∧ t.sizes = s.sizes := by
  simp only [oneA, Bool.and_eq_true, beq_iff_eq, decide_eq_true_eq] at h
  obtain ⟨⟨⟨⟨h1, h2⟩, h3⟩, h4⟩, h5⟩ := h
  exact ⟨by omega, by omega, by omega, h4.symm, h5.symm⟩
theorem ShG.k1 {d : Shd} (h : ShG d) : 1 ≤ d.k ∧ d.k ≤ d.n ∧ d.n ≤ 128 ∧ d.i < d.n := by
  obtain ⟨⟨a1, a2, a3, a4, a5, a6, a7⟩, _, _, _⟩ := h
  simp only [Shd.sh] at a1 a2 a3 a4 a5
  omega
theorem ShG.tot {d : Shd} (h : ShG d) : d.sizes.sum ≤ 65536 := by
  have := h.few.bytes
  rw [show d.sh.zs = d.sizes.map Int.ofNat from rfl, tot_nat] at this
  exact this
theorem ShG.col {d : Shd} (h : ShG d) : d.col.length = lenC d.k d.sizes.sum := by
  have := h.long
  unfold Sh.Long at this
  rw [show d.sh.zs = d.sizes.map Int.ofNat from rfl, tot_nat, show d.sh.K.toNat = d.k from rfl] at this
  exact this
theorem ShG.ln {d : Shd} (h : ShG d) : d.names.length = d.sizes.length := by
  have := h.listed.len
  simpa [Shd.sh] using this
theorem rise {n : Nat} {x : Nat → Nat} (h : ∀ i, i + 1 < n → x i < x (i + 1)) : ∀ j i, i < j → j < n → x i < x j
  | 0, i, h1, _ => by omega
  | j + 1, i, h1, h2 => by
    have := h j h2
    rcases Nat.lt_or_ge i j with h3 | h3
    · have := rise h j i h3 (by omega)
      omega
    · obtain rfl : i = j := by omega
      exact this
theorem rise_le {n : Nat} {x : Nat → Nat} (h : ∀ i, i + 1 < n → x i < x (i + 1)) : ∀ j, j < n → j ≤ x j
  | 0, _ => by omega
  | j + 1, h1 => by
    have := h j h1
    have := rise_le h j (by omega)
    omega
/-- These bytes are such that all columns are theirs. -/
def FitsC (M : Nat) (sh : Nat → Shd) (l : List UInt8) : Prop := l.length = (sh 0).sizes.sum ∧ Hold' (sh 0).k (lenC (sh 0).k (sh 0).sizes.sum) M sh l
theorem dsh_of {M : Nat} {sh : Nat → Shd} (hG : ∀ i, i < M → ShG (sh i)) (hsr : ∀ i, i + 1 < M → (sh i).i ≤ (sh (i + 1)).i) (hE : TogE M sh 0) : 0 < M ∧ DsH (sh 0).k (sh 0).n (lenC (sh 0).k (sh 0).sizes.sum) (sh 0).sizes.sum M sh := by
  rcases hE with ⟨h, _⟩ | ⟨h, _⟩ | ⟨h, _⟩ | ⟨_, hA, hD, h0, hk⟩
  · cases h
  · cases h
  · cases h
  have hG0 := hG 0 h0
  obtain ⟨a1, a2, a3, a4⟩ := hG0.k1
  have hst : ∀ i, i + 1 < M → (sh i).i < (sh (i + 1)).i := fun i hi => by
    have := hsr i hi
    have : (sh (i + 1)).i ≠ (sh i).i := fun e => hD ⟨i, hi, e⟩
    omega
  have hix : ∀ i, i < M → (sh i).i < (sh 0).n := fun i hi => by
    have := (hG i hi).k1.2.2.2
    rw [(oneA_eq (hA i hi)).2.1] at this
    exact this
  have hMn : M ≤ 128 := by
    have h1 := rise_le hst (M - 1) (by omega)
    have h2 := hix (M - 1) (by omega)
    omega
  refine ⟨h0, a1, a2, a3, hk, hMn, rfl, rfl, rfl, hG0.tot, rfl, fun i hi => ?_, hix, fun i j hi hj hne e => ?_⟩
  · obtain ⟨e1, _, _, _, e5⟩ := oneA_eq (hA i hi)
    rw [(hG i hi).col, e1, e5]
  · rcases Nat.lt_or_ge i j with h | h
    · have := rise hst j i h hj
      omega
    · have := rise hst i j (by omega) hi
      omega
/-- What archive.Decode tells. -/
def ArcR (M : Nat) (sh : Nat → Shd) (y : Value) (w : World) : Prop :=
  (∃ e ev p, TogE M sh e ∧ e ≠ 0 ∧ y = .tuple #[.slice none 0 0, ev] ∧ Chain w 1 ev e p) ∨
  (TogE M sh 0 ∧ (¬ ∃ l, FitsC M sh l) ∧ ∃ ev p, y = .tuple #[.slice none 0 0, ev] ∧ Chain w 1 ev 13 p) ∨
  (TogE M sh 0 ∧ ∃ l gb vb, FitsC M sh l ∧ (∀ l', FitsC M sh l' → l' = l) ∧ y = .tuple #[.slice (some ⟨gb, 0, none⟩) (sh 0).names.length (sh 0).names.length, .nilIface] ∧ CB (sh 0).names (sh 0).sizes l gb (sh 0).names.length vb w)

set_option maxHeartbeats 1000000 in
set_option maxRecDepth 100000 in
theorem arch_call {Fin : Machine → Trace → Prop} (hpre : ∀ m m' ops t, stepT Tryz.prog m = (.next m', ops) → Fin m' (t ++ ops) → Fin m t) {X : Nat → Prop} {Y : Nat → Option Obj} {e : Nat} {gs : Array Goroutine} {W v0 : World} {sl : Option (Nat × Nat)} {t : Trace} {qq : Nat → Nat} {fr : Frame} {cs : List Frame} {M cap : Nat} {bo : Option Addr} {sh : Nat → Shd} {vN vS vC : Nat → Value}
    (h0 : gs[0]? = some (G ((base 10).at ⟨#[.slice bo M cap] ++ Array.replicate 34 undef, []⟩ [.code adBody]) (fr :: cs))) (hB : Bes Tryz.prog (ShunX X) e gs W t qq) (hs : SimT X Y W v0)
    (hS : Sds v0 bo M sh vN vS vC) (hM : M ≤ 1048576) (hG : ∀ i, i < M → ShG (sh i)) (he : e + 256 < 2147483648)
    (hnext : ∀ (e' : Nat) (g : Nat → Nat) (y : Value) (X' : Nat → Prop) (gs' : Array Goroutine) (W' : World) (sl' : Option (Nat × Nat)) (t' : Trace) (q' : Nat → Nat) (Y' : Nat → Option Obj) (v' : World), e' ≤ e + 256 → Prm M g → (∀ i, i + 1 < M → (sh (g i)).i ≤ (sh (g (i + 1))).i) → gs'[0]? = some (G (fr.finish y) cs) →
      Bes Tryz.prog (ShunX X') e' gs' W' t' q' → SimT X' Y' W' v' → (∀ b, X b → X' b) → (∀ b, X' b → X b ∨ W.heap.size ≤ b) → Sub v0 v' → KpX X W W' → ArcR M (fun i => sh (g i)) y v' → Fin (crowd gs' W' sl') t') :
    Fin (crowd gs W sl) t := by
  let St : Goroutine → World → Prop := fun gr W => ∃ (T : Array Value) (g : Nat → Nat) (bs : Option Addr) (cp : Nat) (v1 : World), TA1 (.slice bs M cp) T ∧ Prm M g ∧ (∀ i, i + 1 < M → (sh (g i)).i ≤ (sh (g (i + 1))).i) ∧ Sds v1 bs M (fun i => sh (g i)) (fun i => vN (g i)) (fun i => vS (g i)) (fun i => vC (g i)) ∧ Bel v0.heap.size v0 v1 ∧ gr = G ((base 10).at ⟨T, []⟩ [.code ad2]) (fr :: cs) ∧ SimT X Y W v1
  have key := ad_pre (Stop := St) (Y := Y) (cs := fr :: cs) (cap := cap) (dokX X) hS hM (fun i hi => by have := (hG i hi).k1; omega) (fun T g bs cp v1 a1 a2 a3 a4 a5 y hy => .stop fun d => ⟨T, g, bs, cp, v1, a1, a2, a3, a4, a5, rfl, hy.at d⟩)
  refine late (Fin := Fin) (Shun := ShunX X) (e := e) hpre (fun _ _ _ h => h) (fun gs1 a1 W1 sl1 t1 q1 h01 hst hB1 => ?_) (key W hs) W.drawn gs sl t qq h0 hB
  obtain ⟨T, g, bs, cp, v1, hT, hP, hsr, hS1, hb1, rfl, hs1⟩ := hst W1.drawn
  replace hs1 : SimT X Y W1 v1 := hs1
  clear key hst
  have hk1 := kpX_sim hs hs1 hb1
  have hsub1 := bel_sub hb1
  have hG1 : ∀ i, i < M → ShG (sh (g i)) := fun i hi => hG _ (hP.lt i hi)
  obtain ⟨err, hE⟩ := TogE.some M (fun i => sh (g i))
  by_cases hz : err = 0
  · subst hz
    obtain ⟨hM0, hH⟩ := dsh_of (sh := fun i => sh (g i)) hG1 hsr hE
    let St2 : Goroutine → World → Prop := fun gr W => ∃ T2 v2, TA1 (.slice bs M cp) T2 ∧ Bel v1.heap.size v1 v2 ∧ gr = G ((base 25).at ⟨#[.slice bs M cp] ++ Array.replicate 75 undef, []⟩ [.code doBody]) (frAd T2 :: fr :: cs) ∧ SimT X Y W v2
    have key2 := ad_in (Stop := St2) (Y := Y) (cs := fr :: cs) (dokX X) hT hS1 hM hE (fun T' w' a1 a2 y hy => .stop fun d => ⟨T', w', a1, a2, rfl, hy.at d⟩)
    refine late (Fin := Fin) (Shun := ShunX X) (e := e) hpre (fun _ _ _ h => h) (fun gs2 a2 W2 sl2 t2 q2 h02 hst hB2 => ?_) (key2 W1 hs1) W1.drawn gs1 sl1 t1 q1 h01 hB1
    obtain ⟨T2, v2, hT2, hb2, rfl, hs2⟩ := hst W2.drawn
    replace hs2 : SimT X Y W2 v2 := hs2
    clear key2 hst
    have hk2 := kpX_sim hs1 hs2 hb2
    have hS2 := hS1.bel hb2
    have hkn := hH.kn
    have hn1 := hH.n1
    refine data_call hpre h02 hB2 hs2 hH hS2 (by omega) ?_
    intro e3 l vd y X3 gs3 W3 sl3 t3 q3 Y3 v3 he3 hl3 h03 hB3 hs3 hX1 hX2 hsub3 hk3 hLd hDd hR
    have hsub13 : Sub v0 v3 := hsub1.trans ((bel_sub hb2).trans hsub3)
    have hz2 := hk2.size
    have hz1 := hk1.size
    have hk13 : KpX X W W3 := (hk1.trans hk2 fun x hx => .inl hx).trans hk3 fun x hx => .inl hx
    have hX3 : ∀ b, X3 b → X b ∨ W.heap.size ≤ b := fun b hb => (hX2 b hb).imp id fun h => by omega
    have fin : ∀ (y : Value) (v4 : World), Bel v3.heap.size v3 v4 → ArcR M (fun i => sh (g i)) y v4 → ∀ gs4 W4 sl4 t4 q4, gs4[0]? = some (G (fr.finish y) cs) → Bes Tryz.prog (ShunX X3) e3 gs4 W4 t4 q4 → SimT X3 Y3 W4 v4 → Fin (crowd gs4 W4 sl4) t4 := fun y v4 hb4 hA gs4 W4 sl4 t4 q4 h04 hB4 hs4 =>
      hnext e3 g y X3 gs4 W4 sl4 t4 q4 Y3 v4 (by omega) hP hsr h04 hB4 hs4 hX1 hX3 (hsub13.trans (bel_sub hb4)) (hk13.trans (kpX_sim hs3 hs4 hb4) hX3) hA
    let St4 : Goroutine → World → Prop := fun gr W => ∃ y v4, Bel v3.heap.size v3 v4 ∧ ArcR M (fun i => sh (g i)) y v4 ∧ gr = G (fr.finish y) cs ∧ SimT X3 Y3 W v4
    rcases hR with ⟨rfl, hhold, hun⟩ | ⟨ev, p, rfl, hch, hno⟩
    · have key4 := ad_back (Stop := St4) (Y := Y3) (cs := fr :: cs) (w := v3) (vd := vd) (ve := .nilIface) (dokX X3) hT2 (fun T4 hT4 => reaR_I.2 (ad_cut (Stop := St4) (l := l) (dokX X3) hT4 (hS2.sub hsub3) hM0 hLd (by rw [hl3]; exact hDd) (hG1 0 hM0).ln hl3.symm (by have := hH.t1; omega) (fun gb vb w' b1 b2 _ z hz => .stop fun d => ⟨_, w', b2, .inr (.inr ⟨hE, l, gb, vb, ⟨hl3, hhold⟩, fun l' h' => hun l' h'.1 h'.2, rfl, b1⟩), rfl, hz.at d⟩)))
      refine late (Fin := Fin) (Shun := ShunX X3) (e := e3) hpre (fun _ _ _ h => h) (fun gs4 a4 W4 sl4 t4 q4 h04 hst hB4 => ?_) (key4 W3 hs3) W3.drawn gs3 sl3 t3 q3 h03 hB3
      obtain ⟨y, v4, b1, b2, rfl, b3⟩ := hst W4.drawn
      exact fin y v4 b1 b2 gs4 W4 sl4 t4 q4 h04 hB4 b3
    · have key4 := ad_back (Stop := St4) (Y := Y3) (cs := fr :: cs) (w := v3) (vd := .slice none 0 0) (ve := ev) (dokX X3) hT2 (fun T4 hT4 => reaR_I.2 (ad_odd (Stop := St4) (dokX X3) hT4 hch (fun ev' w' b1 b2 z hz => .stop fun d => ⟨_, w', b2, .inr (.inl ⟨hE, hno, ev', p, rfl, b1⟩), rfl, hz.at d⟩)))
      refine late (Fin := Fin) (Shun := ShunX X3) (e := e3) hpre (fun _ _ _ h => h) (fun gs4 a4 W4 sl4 t4 q4 h04 hst hB4 => ?_) (key4 W3 hs3) W3.drawn gs3 sl3 t3 q3 h03 hB3
      obtain ⟨y, v4, b1, b2, rfl, b3⟩ := hst W4.drawn
      exact fin y v4 b1 b2 gs4 W4 sl4 t4 q4 h04 hB4 b3
  · let St4 : Goroutine → World → Prop := fun gr W => ∃ y v4, Bel v1.heap.size v1 v4 ∧ ArcR M (fun i => sh (g i)) y v4 ∧ gr = G (fr.finish y) cs ∧ SimT X Y W v4
    have key4 := ad_no (Stop := St4) (Y := Y) (cs := cs) (fr := fr) (dokX X) hT hS1 hM hE hz (fun ev p w' b1 b2 z hz' => .stop fun d => ⟨_, w', b2, .inl ⟨err, ev, p, hE, hz, rfl, b1⟩, rfl, hz'.at d⟩)
    refine late (Fin := Fin) (Shun := ShunX X) (e := e) hpre (fun _ _ _ h => h) (fun gs4 a4 W4 sl4 t4 q4 h04 hst hB4 => ?_) (key4 W1 hs1) W1.drawn gs1 sl1 t1 q1 h01 hB1
    obtain ⟨y, v4, b1, b2, rfl, b3⟩ := hst W4.drawn
    replace b3 : SimT X Y W4 v4 := b3
    exact hnext e g y X gs4 W4 sl4 t4 q4 Y v4 (by omega) hP hsr h04 hB4 b3 (fun _ h => h) (fun _ h => .inl h) (hsub1.trans (bel_sub b1)) (hk1.trans (kpX_sim hs1 b3 b1) fun x hx => .inl hx) b2
end Go.Proofs.YtlghjjennhpjeaaGreatDoor

/-
  cairn.Decode: the shards that are right, taken.
-/
namespace Go.Proofs.YtlghjjennhpjeaaGreatDoor
open Go.RowKit Go.Deep Go.Lf Go.Conc Go.Hp

noncomputable def dcBody : Code := Tryz.f5.body.getD .skip
noncomputable def dc11 : Code := gSnd (gSnd (gSnd (gSnd dcBody)))
noncomputable def dc12 : Code := gSnd dc11
theorem dcBody_eq : dcBody = .seq (gFst dcBody) (.seq (gFst (gSnd dcBody)) (.seq (gFst (gSnd (gSnd dcBody))) (.seq (gFst (gSnd (gSnd (gSnd dcBody)))) dc11))) := by kernel_rfl
noncomputable def qc11 : {y : Array Oper // y = gOps (gFst dc11)} := ⟨_, by (simp only [dc11, dcBody, gFst, gSnd, gOps, Tryz.f5, Option.getD_some]; rfl)⟩
noncomputable def cO11 : Array Oper := qc11.1
theorem dc11_eq : dc11 = .seq (.region 11 cO11 false) dc12 := by kernel_rfl
theorem cO11_size : cO11.size = 7 := by kernel_rfl
theorem sfdc : ∃ fn, Tryz.prog.funcs[5]? = some fn := ⟨_, Tryz.func5⟩
def Tdc (f : Nat → Value) (a0 a5 a6 a12 a13 : Value) : Array Value := #[a0, f 1, f 2, f 3, f 4, a5, a6, f 7, f 8, f 9, f 10, f 11, a12, a13, f 14, f 15, f 16, f 17, f 18, f 19, f 20, f 21, f 22, f 23, f 24, f 25, f 26, f 27, f 28, f 29, f 30, f 31, f 32, f 33, f 34, f 35, f 36, f 37, f 38, f 39, f 40, f 41, f 42, f 43, f 44, f 45, f 46, f 47, f 48, f 49, f 50, f 51, f 52, f 53, f 54, f 55]
theorem tdc_mk {T : Array Value} (h : T = #[T.getD 0 undef, T.getD 1 undef, T.getD 2 undef, T.getD 3 undef, T.getD 4 undef, T.getD 5 undef, T.getD 6 undef, T.getD 7 undef, T.getD 8 undef, T.getD 9 undef, T.getD 10 undef, T.getD 11 undef, T.getD 12 undef, T.getD 13 undef, T.getD 14 undef, T.getD 15 undef, T.getD 16 undef, T.getD 17 undef, T.getD 18 undef, T.getD 19 undef, T.getD 20 undef, T.getD 21 undef, T.getD 22 undef, T.getD 23 undef, T.getD 24 undef, T.getD 25 undef, T.getD 26 undef, T.getD 27 undef, T.getD 28 undef, T.getD 29 undef, T.getD 30 undef, T.getD 31 undef, T.getD 32 undef, T.getD 33 undef, T.getD 34 undef, T.getD 35 undef, T.getD 36 undef, T.getD 37 undef, T.getD 38 undef, T.getD 39 undef, T.getD 40 undef, T.getD 41 undef, T.getD 42 undef, T.getD 43 undef, T.getD 44 undef, T.getD 45 undef, T.getD 46 undef, T.getD 47 undef, T.getD 48 undef, T.getD 49 undef, T.getD 50 undef, T.getD 51 undef, T.getD 52 undef, T.getD 53 undef, T.getD 54 undef, T.getD 55 undef]) : T = Tdc (fun i => T.getD i undef) (T.getD 0 undef) (T.getD 5 undef) (T.getD 6 undef) (T.getD 12 undef) (T.getD 13 undef) := h
/-- The slots: all shards read. -/
def TE1 (gv n : Nat) (vt : Value) (T : Array Value) : Prop := ∃ f : Nat → Value, T = Tdc f (f 0) (.slice (some ⟨gv, 0, none⟩) n n) vt (f 12) (f 13)
def TE2 (gv n : Nat) (vb ve : Value) (T : Array Value) : Prop := ∃ f : Nat → Value, T = Tdc f (f 0) (.slice (some ⟨gv, 0, none⟩) n n) (f 6) vb ve
noncomputable def frDc (T : Array Value) : Frame := (base 5).at ⟨T, []⟩ (.inRegion cO11 [1, 2, 3, 4, 5, 6] :: [.code dc12])

def okS (l : List UInt8) : Option Shd := match parseE l with | .ok s => some s | .error _ => none
def erS (l : List UInt8) : Nat := match parseE l with | .ok _ => 0 | .error e => e.1
/-- What is taken of the first j. -/
def tkL (bs : Nat → List UInt8) (j : Nat) : List Shd := (List.range j).filterMap fun i => okS (bs i)
theorem tkL_ok {bs : Nat → List UInt8} {j : Nat} {s : Shd} (h : parseE (bs j) = .ok s) : tkL bs (j + 1) = tkL bs j ++ [s] := by
  simp [tkL, List.range_succ, List.filterMap_append, okS, h]
theorem tkL_no {bs : Nat → List UInt8} {j : Nat} {e : Nat × Nat} (h : parseE (bs j) = .error e) : tkL bs (j + 1) = tkL bs j := by
  simp [tkL, List.range_succ, List.filterMap_append, okS, h]
def shD : Shd := ⟨0, 0, 0, 0, [], [], []⟩
def shAt (ts : List Shd) (i : Nat) : Shd := ts.getD i shD
theorem shAt_old {ts : List Shd} {s : Shd} {i : Nat} (h : i < ts.length) : shAt (ts ++ [s]) i = shAt ts i := by
  simp [shAt, List.getD_eq_getElem?_getD, List.getElem?_append_left h]
theorem shAt_new {ts : List Shd} {s : Shd} : shAt (ts ++ [s]) ts.length = s := by
  simp [shAt, List.getD_eq_getElem?_getD]
def rowsT (S : Nat → List Value) (n : Nat) : List Value := (List.range n).flatMap S
theorem rowsT_succ (S : Nat → List Value) (n : Nat) : rowsT S (n + 1) = rowsT S n ++ S n := by simp [rowsT, List.range_succ, List.flatMap_append]
theorem rowsT_congr {S S' : Nat → List Value} {n : Nat} (h : ∀ i, i < n → S i = S' i) : rowsT S n = rowsT S' n := by
  induction n with
  | zero => rfl
  | succ n ih => rw [rowsT_succ, rowsT_succ, ih fun i hi => h i (by omega), h n (by omega)]
/-- The taken shards, where they lie. -/
structure Tk (B : Nat) (ts : List Shd) (vN vS vC : Nat → Value) (vt : Value) (w : World) : Prop where
  own : w.ownsRow B 41 7 vt ts.length (rowsT (fun i => shQ (shAt ts i) (vN i) (vS i) (vC i)) ts.length)
  nm : ∀ i, i < ts.length → w.ownsRow B 9 1 (vN i) (shAt ts i).names.length (nameV (shAt ts i).names)
  sz : ∀ i, i < ts.length → w.ownsRow B 3 1 (vS i) (shAt ts i).sizes.length (natV (shAt ts i).sizes)
  cl : ∀ i, i < ts.length → w.ownsRow B 5 1 (vC i) (shAt ts i).col.length (u8V (shAt ts i).col)
theorem Tk.keep {B : Nat} {ts : List Shd} {vN vS vC : Nat → Value} {vt : Value} {w w' : World} (h : Tk B ts vN vS vC vt w) (hk : ∀ b, B ≤ b → b < w.heap.size → w'.heap[b]? = w.heap[b]?) : Tk B ts vN vS vC vt w' :=
  ⟨owns_keep' h.own fun g hg => hk g (h.own.lt g hg).1 (h.own.lt g hg).2, fun i hi => owns_keep' (h.nm i hi) fun g hg => hk g ((h.nm i hi).lt g hg).1 ((h.nm i hi).lt g hg).2,
   fun i hi => owns_keep' (h.sz i hi) fun g hg => hk g ((h.sz i hi).lt g hg).1 ((h.sz i hi).lt g hg).2, fun i hi => owns_keep' (h.cl i hi) fun g hg => hk g ((h.cl i hi).lt g hg).1 ((h.cl i hi).lt g hg).2⟩
theorem Tk.more {B : Nat} {ts : List Shd} {vN vS vC : Nat → Value} {vt v' : Value} {w w' : World} {s : Shd} {xN xS xC : Value} (h : Tk B ts vN vS vC vt w) (hN : w.ownsRow B 9 1 xN s.names.length (nameV s.names)) (hS : w.ownsRow B 3 1 xS s.sizes.length (natV s.sizes)) (hC : w.ownsRow B 5 1 xC s.col.length (u8V s.col))
    (hg : w.grownBy w' vt.ownBlock) (ho : w'.ownsRow B 41 7 v' (ts.length + 1) (rowsT (fun i => shQ (shAt ts i) (vN i) (vS i) (vC i)) ts.length ++ shQ s xN xS xC)) :
    Tk B (ts ++ [s]) (fun i => if i = ts.length then xN else vN i) (fun i => if i = ts.length then xS else vS i) (fun i => if i = ts.length then xC else vC i) v' w' := by
  have key : ∀ {t n : Nat} {v : Value} {xs : List Value}, w.ownsRow B t 1 v n xs → t ≠ 41 → w'.ownsRow B t 1 v n xs := fun {t n v xs} o ht => owns_keep' o fun g hg' => hg.block g (o.lt g hg').2 (fun e => kind_ne o h.own ht hg' e.symm)
  have hl : (ts ++ [s]).length = ts.length + 1 := by simp
  refine ⟨?_, fun i hi => ?_, fun i hi => ?_, fun i hi => ?_⟩
  · rw [hl, rowsT_succ, rowsT_congr (S' := fun i => shQ (shAt ts i) (vN i) (vS i) (vC i)) fun i hi => by simp only [if_neg (show i ≠ ts.length by omega), shAt_old hi]]
    simp only [if_true, shAt_new]
    exact ho
  all_goals
    by_cases e : i = ts.length
    · subst e
      simp only [if_true, shAt_new]
      first | exact key hN (by decide) | exact key hS (by decide) | exact key hC (by decide)
    · have hi' : i < ts.length := by omega
      simp only [if_neg e, shAt_old hi']
      first | exact key (h.nm i hi') (by decide) | exact key (h.sz i hi') (by decide) | exact key (h.cl i hi') (by decide)
theorem Tk.sds {B : Nat} {ts : List Shd} {vN vS vC : Nat → Value} {vt : Value} {w : World} (h : Tk B ts vN vS vC vt w) (hG : ∀ s ∈ ts, ShG s) : ∃ bo cap, vt = .slice bo ts.length cap ∧ Sds w bo ts.length (shAt ts) vN vS vC := by
  have hG' : ∀ i, i < ts.length → ShG (shAt ts i) := fun i hi => hG _ (by simp [shAt, List.getD_eq_getElem?_getD, List.getElem?_eq_getElem hi])
  have hv : ∃ bs cp, vt = .slice bs ts.length cp ∧ (0 < ts.length → ∃ g, bs = some ⟨g, 0, none⟩) := by
    rcases h.own.2 with ⟨h1, h0⟩ | ⟨g, c, _, h1, _⟩
    · exact ⟨none, 0, by rw [h1, h0], fun h => by omega⟩
    · exact ⟨_, c, h1, fun _ => ⟨g, rfl⟩⟩
  obtain ⟨bs, cp, rfl, hbs⟩ := hv
  have hln : ∀ i, i < ts.length → (shAt ts i).names.length ≤ 1048576 ∧ (shAt ts i).sizes.length ≤ 1048576 := fun i hi => by
    have h1 := (hG' i hi).few.blobs
    have h2 := (hG' i hi).ln
    simp only [Shd.sh] at h1
    omega
  refine ⟨bs, cp, rfl, fun hn => ?_, fun i hi => ⟨Lies.owned (h.nm i hi), (hln i hi).1⟩, fun i hi => ⟨Lies.owned (h.sz i hi), (hln i hi).2⟩, fun i hi => Lies.owned (h.cl i hi), fun i hi => by have := (hG' i hi).k1; omega⟩
  obtain ⟨g, rfl⟩ := hbs hn
  have hr : ∀ i, i < ts.length → w.rangeAt g (i * 7) (shQ (shAt ts i) (vN i) (vS i) (vC i)) := fun i hi => own_range (c := fun e => shQ (shAt ts e.l) (vN e.l) (vS e.l) (vC e.l)) (f := fun i => ⟨[], none, i, 0⟩) (fun _ => rfl) h.own hi
  exact ⟨g, 0, rfl, cell_lt (hr 0 hn 0 _ rfl), fun i hi => by rw [Nat.zero_add]; exact hr i hi⟩
theorem good_of_parse {z : List UInt8} {s : Shd} (h : parseE z = .ok s) : ShG s := by
  obtain ⟨h1, h2, h3, h4, _⟩ := parse_inv h
  exact ⟨h1, h2, h3, h4⟩
theorem tkL_good (bs : Nat → List UInt8) (j : Nat) : ∀ s ∈ tkL bs j, ShG s := fun s hs => by
  obtain ⟨i, _, h⟩ := List.mem_filterMap.1 hs
  unfold okS at h
  split at h
  · rename_i s' hp
    cases h
    exact good_of_parse hp
  · cases h
theorem tkL_len (bs : Nat → List UInt8) (j : Nat) : (tkL bs j).length ≤ j := by
  have := List.length_filterMap_le (fun i => okS (bs i)) (List.range j)
  simpa [tkL] using this
end Go.Proofs.YtlghjjennhpjeaaGreatDoor

/-
  The statement Same: its numbers, its names.
-/
namespace Go.Proofs.YtlghjjennhpjeaaGreatDoor
open Go.RowKit Go.Deep Go.Hp

def cOf (c : Int) : Nat := 1 + pickN c 9
theorem cOf_le (c : Int) : 1 ≤ cOf c ∧ cOf c ≤ 9 := by have := pickN_lt c (show 0 < 9 by omega); unfold cOf; omega

/-- The name of the i-th blob. -/
def nmOf (i : Nat) : List UInt8 := [98, UInt8.ofNat (97 + i)]
end Go.Proofs.YtlghjjennhpjeaaGreatDoor

/-
  The statement Same: its blobs' names fit, and its numbers.
-/
namespace Go.Proofs.YtlghjjennhpjeaaGreatDoor
open Go.RowKit Go.Deep Go.Hp

theorem nmOf_inj {i j : Nat} (hi : i < 26) (hj : j < 26) (h : nmOf i = nmOf j) : i = j := by
  have e : UInt8.ofNat (97 + i) = UInt8.ofNat (97 + j) := by
    unfold nmOf at h
    simpa using h
  have := congrArg UInt8.toNat e
  rw [UInt8.toNat_ofNat', UInt8.toNat_ofNat', Nat.mod_eq_of_lt (by omega), Nat.mod_eq_of_lt (by omega)] at this
  omega
theorem params_ok (k n c : Int) : ParamsOk ((kOf k n : Nat) : Int) ((nOf n : Nat) : Int) ((cOf c : Nat) : Int) := by
  have := nOf_le n
  have := kOf_le k n
  have := cOf_le c
  refine ⟨?_, by omega, by omega⟩
  unfold PartsOk
  omega

/-- The blobs of the statement: their names by their numbers, in some order. -/
theorem names_fit {m : Nat} {f : Nat → Ent} {xs : Nat → Nat} (hx : ∀ i, i < m → xs i < 26) (hd : ∀ i j, i < j → j < m → xs i ≠ xs j) (hk : ∀ i, i < m → (f i).k = nmOf (xs i)) : NamesFit m f :=
  ⟨fun i hi => by rw [hk i hi]; exact ⟨by simp [nmOf], by simp [nmOf]⟩, fun i j h1 h2 e => hd i j h1 h2 (nmOf_inj (hx i (by omega)) (hx j h2) (by rw [← hk i (by omega), ← hk j h2]; exact e))⟩
/-- .. one of them twice: they don't. -/
theorem names_twice {m : Nat} {f : Nat → Ent} {i j : Nat} (hi : i < j) (hj : j < m) (e : (f i).k = (f j).k) : ¬ NamesFit m f := fun h => h.2 i j hi hj e
end Go.Proofs.YtlghjjennhpjeaaGreatDoor

/-
  The blobs of the statements, by raw numbers: run alone.
-/
namespace Go.Proofs.YtlghjjennhpjeaaGreatDoor
open Go.RowKit Go.Deep Go.Hp

/-- So far i blobs are laid, with these bytes. -/
structure ArI (h : Nat) (w : World) (i : Nat) (f : Nat → Ent) (D : Nat → List UInt8) (va : Value) (wr : World) : Prop where
  own : wr.ownsRow h 63 2 va i (blobL i f)
  nm : ∀ j, j < i → (f j).k = nmOf j
  len : ∀ j, j < i → (D j).length < 14
  dat : ∀ j, j < i → ∃ B, wr.ownsRow B 5 1 (f j).d (D j).length (u8V (D j))
  bel : Below h w wr
/-- So far the i-th blob has these bytes. -/
structure BlI (i pb : Nat) (w : World) (L : List UInt8) (vd : Value) (wq : World) : Prop where
  row : RowAt wq pb [strV (nmOf i), vd] 63
  own : wq.ownsRow (pb + 1) 5 1 vd L.length (u8V L)
  bel : Below w.heap.size w wq
  pb : w.heap.size ≤ pb

theorem form_d {w : World} {B n : Nat} {v : Value} {xs : List Value} (h : w.ownsRow B 5 1 v n xs) (k : List UInt8) : ∃ e : Ent, e.k = k ∧ e.d = v := by
  rcases h.2 with ⟨h1, h2⟩ | ⟨g, cap, cur, rfl, h2, h3, h4, _⟩
  · subst h1
    exact ⟨⟨k, none, 0, 0⟩, rfl, rfl⟩
  · exact ⟨⟨k, some ⟨g, 0, none⟩, _, cap⟩, rfl, rfl⟩
theorem data_owns {w : World} {B : Nat} {e : Ent} {L : List UInt8} (h : w.ownsRow B 5 1 e.d L.length (u8V L)) : DataAt w e L := by
  rcases h.2 with ⟨h1, h2⟩ | ⟨g, cap, cur, h1, h2, h3, h4, _⟩
  · unfold Ent.d at h1
    cases h1' : e.a with
    | none =>
      rw [h1'] at h1
      simp only [Value.slice.injEq, true_and] at h1
      exact ⟨by omega, .inl ⟨h1', h1.1, h1.2⟩⟩
    | some x => rw [h1'] at h1; simp at h1
  · have h1' := h1
    unfold Ent.d at h1'
    simp only [Value.slice.injEq] at h1'
    refine ⟨h1'.2.1.symm, .inr ⟨_, h1'.1, fun j u hj => ?_⟩⟩
    have hl : j < (u8V L).length := (List.getElem?_eq_some_iff.1 hj).1
    rw [h1] at h
    rw [addr_addD, Nat.zero_add, h.cellAt j (by simpa [u8V] using hl)]
    exact hj

theorem ArI.next {h i pb : Nat} {w wr wq : World} {f : Nat → Ent} {D : Nat → List UInt8} {va vd : Value} {L : List UInt8} (H : ArI h w i f D va wr) (hB : BlI i pb wr L vd wq) (hh : h ≤ wr.heap.size) :
    ∃ e : Ent, e.k = nmOf i ∧ e.d = vd ∧ wq.ownsRow h 63 2 va i (blobL i f) ∧ wq.ownsRow (pb + 1) 5 1 e.d L.length (u8V L) ∧ (∀ j, j < i → ∃ B, wq.ownsRow B 5 1 (f j).d (D j).length (u8V (D j))) ∧ Below h w wq := by
  obtain ⟨e, h1, h2⟩ := form_d hB.own (nmOf i)
  exact ⟨e, h1, h2, owns_keep' H.own fun g hg => hB.bel.block g (H.own.lt g hg).2, h2 ▸ hB.own, fun j hj => by
    obtain ⟨B, hBj⟩ := H.dat j hj
    exact ⟨B, owns_keep' hBj fun g hg => hB.bel.block g (hBj.lt g hg).2⟩, H.bel.trans (hB.bel.mono hh)⟩

theorem byte_k {k : Nat} (h : k < 256) : (k : Int) = (((UInt8.ofNat k).toNat : Nat) : Int) := by rw [UInt8.toNat_ofNat', Nat.mod_eq_of_lt h]
theorem BlI.row1 {i pb : Nat} {w wq w1 : World} {L : List UInt8} {vd : Value} {o : Obj} (H : BlI i pb w L vd wq) (hg : (wq.alloc o).grownBy w1 vd.ownBlock) : RowAt w1 pb [strV (nmOf i), vd] 63 := by
  have hlt := H.row.lt
  have e := hg.block pb (by simp; omega) (fun e => by have := (H.own.lt pb e.symm).1; omega)
  unfold RowAt
  rw [e, Below.heap_alloc _ _ _ hlt]
  exact H.row
theorem BlI.add {i pb : Nat} {w wq w1 : World} {L : List UInt8} {vd v' : Value} {o : Obj} (H : BlI i pb w L vd wq) (x : UInt8) (ho : w1.ownsRow (pb + 1) 5 1 v' (L.length + 1) (u8V L ++ [.int .u8 (x.toNat : Int)])) (hg : (wq.alloc o).grownBy w1 vd.ownBlock) : BlI i pb w (L ++ [x]) v' (w1.setCell ⟨pb, 1, none⟩ v') := by
  have hlt := H.row.lt
  have hp := H.pb
  refine ⟨(H.row1 hg).set 1 v', ?_, ?_, hp⟩
  · have e : u8V (L ++ [x]) = u8V L ++ [.int .u8 (x.toNat : Int)] := by simp [u8V]
    rw [e, List.length_append]
    exact owns_keep' ho fun g hg => heap_setCell_other _ _ _ _ (by have := (ho.lt g hg).1; show g ≠ pb; omega)
  · have h1 := (H.bel.alloc (Nat.le_of_lt (Nat.lt_of_le_of_lt hp hlt)) o).grown hg (by simp; omega) (fun x hx => by have := (H.own.lt x hx).1; omega)
    exact h1.setCell hp _
/-- The byte of a number. -/
theorem wrap8 (z : Int) : ∃ y : Nat, y < 256 ∧ IntKind.u8.wrap z = (y : Int) := by
  have h : IntKind.u8.wrap z = z % 256 := by
    simp [IntKind.wrap, IntKind.bits, IntKind.signed]
  exact ⟨(z % 256).toNat, by omega, by rw [h]; omega⟩
theorem blobC_one' (k : List UInt8) (a : Option Addr) (l c : Nat) : ∀ u ∈ [Value.string ⟨k.toArray⟩, .slice a l c], u.oneCell' = true := by
  intro u hu
  simp at hu
  rcases hu with rfl | rfl <;> rfl
theorem ArI.add {h i pb : Nat} {w wr0 wr w1 : World} {f : Nat → Ent} {D : Nat → List UInt8} {va v' : Value} {o : Obj} {e : Ent} {L : List UInt8} (H : ArI h w i f D va wr0) (ho : w1.ownsRow h 63 2 v' (i + 1) (blobL i f ++ [.string ⟨(nmOf i).toArray⟩, .slice e.a e.l e.c])) (hg : (wr.alloc o).grownBy w1 va.ownBlock) (he : e.k = nmOf i) (hL : L.length < 14)
    (hd : wr.ownsRow (pb + 1) 5 1 e.d L.length (u8V L)) (hdd : ∀ j, j < i → ∃ B, wr.ownsRow B 5 1 (f j).d (D j).length (u8V (D j))) (hb : Below h w wr) (hown : wr.ownsRow h 63 2 va i (blobL i f)) (hw : h ≤ wr.heap.size) : ArI h w (i + 1) (fun j => if j = i then e else f j) (fun j => if j = i then L else D j) v' w1 := by
  have hk : ∀ {B n : Nat} {v : Value} {xs : List Value}, wr.ownsRow B 5 1 v n xs → w1.ownsRow B 5 1 v n xs := fun hx => owns_keep' hx fun g hg' => by
    have hlt := (hx.lt g hg').2
    rw [hg.block g (by simp; omega) (fun e => kind_ne hown hx (by decide) e.symm hg'), Below.heap_alloc _ _ _ hlt]
  refine ⟨?_, fun j hj => ?_, fun j hj => ?_, fun j hj => ?_, (hb.alloc hw o).grown hg (by simp; omega) (fun x hx => (hown.lt x hx).1)⟩
  · rw [blobL_succ, blobL_congr (g := f) fun j hj => by simp; intro h; omega]
    have e1 : blobC (if i = i then e else f i) = [.string ⟨(nmOf i).toArray⟩, .slice e.a e.l e.c] := by rw [if_pos rfl, blobC, he]; rfl
    rw [e1]
    exact ho
  · split
    · rename_i h1; rw [h1]; exact he
    · exact H.nm j (by omega)
  · split
    · exact hL
    · exact H.len j (by omega)
  · split
    · exact ⟨_, hk hd⟩
    · obtain ⟨B, h1⟩ := hdd j (by omega)
      exact ⟨B, hk h1⟩
def InR (i pb sz len : Nat) (w : World) (vat vk : Value) (wq : World) : Prop := ∃ (k q : Nat) (L : List UInt8) (vd : Value), k ≤ sz ∧ k = L.length ∧ q ≤ len ∧ vk = .int .i64 ((k : Nat) : Int) ∧ vat = .int .i64 ((q : Nat) : Int) ∧ BlI i pb w L vd wq
def OutR (h n len : Nat) (w : World) (va vat vi : Value) (wr : World) : Prop := ∃ (i q : Nat) (f : Nat → Ent) (D : Nat → List UInt8), i ≤ n ∧ q ≤ len ∧ vi = .int .i64 ((i : Nat) : Int) ∧ vat = .int .i64 ((q : Nat) : Int) ∧ ArI h w i f D va wr
def ArPost (w : World) (e : Ending) (w' : World) : Prop := ∃ v m f D, e = .returned v ∧ m ≤ 5 ∧ ArI w.heap.size w m f D v w'
end Go.Proofs.YtlghjjennhpjeaaGreatDoor

/-
  The statement Same up to its first Encode.
-/
namespace Go.Proofs.YtlghjjennhpjeaaGreatDoor
open Go.RowKit Go.Deep Go.Lf Go.Conc Go.Hp

/-- The list of chosen ones, by their numbers. -/
def turn (f : Nat → Ent) (xs : List Nat) : Nat → Ent := fun j => f (xs.getD j 0)
/-- As many holes as pigeons. -/
theorem holes : ∀ (n : Nat) (g : Nat → Nat), (∀ i, i < n → g i < n) → (∀ i j, i < n → j < n → g i = g j → i = j) → ∀ t, t < n → ∃ i, i < n ∧ g i = t
  | 0, _, _, _, t, ht => absurd ht (by omega)
  | n + 1, g, hlt, hinj, t, ht => by
    have ih := holes n (fun i => if g i = n then g n else g i) (fun i hi => by
      have h1 := hlt i (by omega)
      have h2 := hlt n (by omega)
      split
      · rename_i e
        have : g n ≠ n := fun e' => by have := hinj i n (by omega) (by omega) (by omega); omega
        omega
      · omega) (fun i j hi hj e => by
      have key : ∀ i, i < n → g i ≠ g n := fun i hi e => by have := hinj i n (by omega) (by omega) e; omega
      split at e <;> split at e
      · exact hinj i j (by omega) (by omega) (by omega)
      · exact absurd e.symm (key j hj)
      · exact absurd e (key i hi)
      · exact hinj i j (by omega) (by omega) e)
    by_cases h1 : t = g n
    · exact ⟨n, by omega, h1.symm⟩
    by_cases h2 : t = n
    · have h3 := hlt n (by omega)
      obtain ⟨i, hi, e⟩ := ih (g n) (by omega)
      split at e
      · exact ⟨i, by omega, by omega⟩
      · have := hinj i n (by omega) (by omega) e
        omega
    · obtain ⟨i, hi, e⟩ := ih t (by omega)
      split at e
      · exact absurd e.symm h1
      · exact ⟨i, by omega, e⟩
/-- Where a number stands. -/
theorem Once.at {n : Nat} {xs : List Nat} (h : Once n xs) : ∃ τ : Nat → Nat, ∀ i, i < n → τ i < n ∧ xs.getD (τ i) 0 = i := by
  have get : ∀ i, i < n → xs[i]? = some (xs.getD i 0) := fun i hi => by rw [List.getD_eq_getElem?_getD, List.getElem?_eq_getElem (by rw [h.len]; exact hi)]; rfl
  have surj : ∀ i, i < n → ∃ j, j < n ∧ xs.getD j 0 = i := by
    intro i hi
    exact holes n (fun j => xs.getD j 0) (fun j hj => h.lt j _ (get j hj)) (fun a b ha hb e => h.inj a b _ (get a ha) (by rw [get b hb]; exact congrArg some e.symm)) i hi
  exact ⟨fun i => if hi : i < n then (surj i hi).choose else 0, fun i hi => by
    dsimp only
    rw [dif_pos hi]
    exact (surj i hi).choose_spec⟩
theorem Once.rearr {n : Nat} {xs : List Nat} (h : Once n xs) (f : Nat → Ent) : Rearr n f (turn f xs) := by
  obtain ⟨τ, ht⟩ := h.at
  have get : ∀ i, i < n → xs[i]? = some (xs.getD i 0) := fun i hi => by rw [List.getD_eq_getElem?_getD, List.getElem?_eq_getElem (by rw [h.len]; exact hi)]; rfl
  refine ⟨fun i => xs.getD i 0, τ, fun i hi => ?_, fun i hi => rfl⟩
  have h1 := h.lt i _ (get i hi)
  obtain ⟨h2, h3⟩ := ht i hi
  obtain ⟨h4, h5⟩ := ht _ h1
  refine ⟨h1, h2, ?_, h3⟩
  refine h.inj _ _ (xs.getD i 0) ?_ (get i hi)
  have := get _ h4
  rw [this, h5]

theorem owns_bel {w w' : World} {B e z n B' : Nat} {v : Value} {xs : List Value} (h : w.ownsRow B e z v n xs) (hb : Bel B' w w') (hB : w.heap.size ≤ B') : w'.ownsRow B e z v n xs := owns_keep' h fun g hg => hb.blk (Nat.lt_of_lt_of_le (h.lt g hg).2 hB)
/-- What is known of the numbers and the blobs. -/
structure SmP (K N C m : Nat) (f : Nat → Ent) (D : Nat → List UInt8) (pb : Nat) (vb : Value) (w : World) : Prop where
  par : RowAt w pb [.int .i64 ((K : Nat) : Int), .int .i64 ((N : Nat) : Int), .int .i64 ((C : Nat) : Int)] 60
  own : ∃ B, w.ownsRow B 63 2 vb m (blobL m f)
  nm : ∀ j, j < m → (f j).k = nmOf j
  len : ∀ j, j < m → (D j).length < 14
  dat : ∀ j, j < m → ∃ B, w.ownsRow B 5 1 (f j).d (D j).length (u8V (D j))
  hm : m ≤ 5
theorem SmP.bel {K N C m : Nat} {f : Nat → Ent} {D : Nat → List UInt8} {pb : Nat} {vb : Value} {w w' : World} {B : Nat} (h : SmP K N C m f D pb vb w) (hb : Bel B w w') (hB : w.heap.size ≤ B) : SmP K N C m f D pb vb w' :=
  ⟨(hb.blk (Nat.lt_of_lt_of_le h.par.lt hB)).trans h.par, by obtain ⟨B, h1⟩ := h.own; exact ⟨B, owns_bel h1 hb hB⟩, h.nm, h.len, fun j hj => by obtain ⟨B, h1⟩ := h.dat j hj; exact ⟨B, owns_bel h1 hb hB⟩, h.hm⟩
/-- .. and the blobs turned about. -/
structure SmS (h0 K N C m : Nat) (f : Nat → Ent) (D : Nat → List UInt8) (xs : List Nat) (pb : Nat) (vb vt : Value) (w : World) : Prop where
  pre : SmP K N C m f D pb vb w
  owt : ∃ B, h0 ≤ B ∧ w.ownsRow B 63 2 vt m (blobL m (turn f xs))
  once : Once m xs
def TurnR (h n : Nat) (f : Nat → Ent) (xs : List Nat) (w : World) (vt vi : Value) (wr : World) : Prop := ∃ i : Nat, i ≤ n ∧ vi = .int .i64 ((i : Nat) : Int) ∧ wr.ownsRow h 63 2 vt i (blobL i (turn f xs)) ∧ Below h w wr
def TSm (pb : Nat) (vb vt : Value) (T : Array Value) : Prop := ∃ f : Nat → Value, T = #[f 0, f 1, f 2, f 3, f 4, f 5, f 6, f 7, f 8, f 9, f 10, .pointer (some ⟨pb, 0, none⟩), vb, f 13, vt, f 15, f 16, f 17, f 18, f 19, f 20, f 21, f 22, f 23, f 24, f 25, f 26, f 27, f 28, f 29, f 30, f 31, f 32, f 33, f 34, f 35, f 36, f 37, f 38, f 39, f 40, f 41, f 42, f 43, f 44, f 45, f 46, f 47, f 48, f 49, f 50, f 51, f 52, f 53, f 54, f 55, f 56, f 57, f 58, f 59, f 60, f 61, f 62, f 63, f 64, f 65, f 66, f 67, f 68, f 69, f 70, f 71, f 72, f 73, f 74, f 75, f 76, f 77, f 78, f 79, f 80, f 81, f 82, f 83, f 84, f 85, f 86, f 87, f 88, f 89, f 90, f 91, f 92, f 93, f 94, f 95, f 96, f 97, f 98, f 99, f 100, f 101, f 102, f 103, f 104, f 105, f 106, f 107, f 108, f 109, f 110, f 111, f 112, f 113, f 114, f 115, f 116, f 117, f 118, f 119, f 120]
theorem ts_mk {pb : Nat} {vb vt : Value} {T : Array Value} (h : T = #[T.getD 0 undef, T.getD 1 undef, T.getD 2 undef, T.getD 3 undef, T.getD 4 undef, T.getD 5 undef, T.getD 6 undef, T.getD 7 undef, T.getD 8 undef, T.getD 9 undef, T.getD 10 undef, .pointer (some ⟨pb, 0, none⟩), vb, T.getD 13 undef, vt, T.getD 15 undef, T.getD 16 undef, T.getD 17 undef, T.getD 18 undef, T.getD 19 undef, T.getD 20 undef, T.getD 21 undef, T.getD 22 undef, T.getD 23 undef, T.getD 24 undef, T.getD 25 undef, T.getD 26 undef, T.getD 27 undef, T.getD 28 undef, T.getD 29 undef, T.getD 30 undef, T.getD 31 undef, T.getD 32 undef, T.getD 33 undef, T.getD 34 undef, T.getD 35 undef, T.getD 36 undef, T.getD 37 undef, T.getD 38 undef, T.getD 39 undef, T.getD 40 undef, T.getD 41 undef, T.getD 42 undef, T.getD 43 undef, T.getD 44 undef, T.getD 45 undef, T.getD 46 undef, T.getD 47 undef, T.getD 48 undef, T.getD 49 undef, T.getD 50 undef, T.getD 51 undef, T.getD 52 undef, T.getD 53 undef, T.getD 54 undef, T.getD 55 undef, T.getD 56 undef, T.getD 57 undef, T.getD 58 undef, T.getD 59 undef, T.getD 60 undef, T.getD 61 undef, T.getD 62 undef, T.getD 63 undef, T.getD 64 undef, T.getD 65 undef, T.getD 66 undef, T.getD 67 undef, T.getD 68 undef, T.getD 69 undef, T.getD 70 undef, T.getD 71 undef, T.getD 72 undef, T.getD 73 undef, T.getD 74 undef, T.getD 75 undef, T.getD 76 undef, T.getD 77 undef, T.getD 78 undef, T.getD 79 undef, T.getD 80 undef, T.getD 81 undef, T.getD 82 undef, T.getD 83 undef, T.getD 84 undef, T.getD 85 undef, T.getD 86 undef, T.getD 87 undef, T.getD 88 undef, T.getD 89 undef, T.getD 90 undef, T.getD 91 undef, T.getD 92 undef, T.getD 93 undef, T.getD 94 undef, T.getD 95 undef, T.getD 96 undef, T.getD 97 undef, T.getD 98 undef, T.getD 99 undef, T.getD 100 undef, T.getD 101 undef, T.getD 102 undef, T.getD 103 undef, T.getD 104 undef, T.getD 105 undef, T.getD 106 undef, T.getD 107 undef, T.getD 108 undef, T.getD 109 undef, T.getD 110 undef, T.getD 111 undef, T.getD 112 undef, T.getD 113 undef, T.getD 114 undef, T.getD 115 undef, T.getD 116 undef, T.getD 117 undef, T.getD 118 undef, T.getD 119 undef, T.getD 120 undef]) : TSm pb vb vt T := ⟨fun i => T.getD i undef, h⟩
theorem Ints.bel {w w' : World} {v : Value} {zs : List Int} {B : Nat} (h : Ints w v zs) (hb : Bel B w w') (hB : w.heap.size ≤ B) : Ints w' v zs := by
  refine ⟨h.in64, ?_⟩
  rcases h.lies with h1 | ⟨b, off, cap, h1, h2, h3⟩
  · exact .inl h1
  · refine .inr ⟨b, off, cap, h1, Nat.lt_of_lt_of_le h2 hb.size', fun j z hz => ?_⟩
    have := h3 j z hz
    unfold World.cell? at this ⊢
    rw [hb.blk (Nat.lt_of_lt_of_le h2 hB)]
    exact this

section
variable {X : Nat → Prop} {Y : Nat → Option Obj} {D : Nat → World → Array Event → Prop} {Stop : Goroutine → World → Prop} {w : World}
end
end Go.Proofs.YtlghjjennhpjeaaGreatDoor

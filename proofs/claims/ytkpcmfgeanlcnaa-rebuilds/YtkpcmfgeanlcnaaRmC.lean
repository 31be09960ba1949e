/-
  The document's elimination: run alone.
-/
import Derived.Test.YtkpcmfgeanlcnaaRmB
import Derived.Test.YtkpcmfgeanlcnaaRef
namespace Go.Proofs.Ytkpcmfgeanlcnaa
open Go.RowKit Go.Deep

def SolvePost (B k : Nat) (M : Nat → Nat → F) (w : World) (e : Ending) (w' : World) : Prop := ∃ v m l, e = .returned v ∧ w'.ownsRow B 56 4 v l.length (stL l) ∧ F.Rs k M m l ∧ F.UnitTo k k m ∧ Below B w w' ∧ l.length ≤ k * (k + 2)
def OutI (B k g hc : Nat) (M : Nat → Nat → F) (w : World) (vl vc : Value) (wr : World) : Prop := ∃ c m l bl cp, c ≤ k ∧ vc = .int .i64 ((c : Nat) : Int) ∧ SS B k g hc bl cp m l vl w wr ∧ F.Rs k M m l ∧ F.UnitTo k c m ∧ l.length ≤ c * (k + 2)
def AddI (B k g hc : Nat) (bl cp : Nat → Nat) (M : Nat → Nat → F) (c : Nat) (w : World) (vl vi : Value) (wr : World) : Prop := ∃ i m l, i ≤ k ∧ vi = .int .i64 ((i : Nat) : Int) ∧ SS B k g hc bl cp m l vl w wr ∧ F.El k M c i m l ∧ l.length ≤ c * (k + 2) + 2 + i
theorem cell_four_new (w : World) (x y z u : Value) (t : TypeId) : ∀ j v, [x, y, z, u][j]? = some v → (w.alloc (.cells #[x, y, z, u] t)).cell? ((⟨w.heap.size, 0, none⟩ : Addr).add j) = some v := by
  intro j v hj
  match j, hj with
  | 0, hj => simp at hj; subst hj; simp [Addr.add]
  | 1, hj => simp at hj; subst hj; simp [Addr.add]
  | 2, hj => simp at hj; subst hj; simp [Addr.add]
  | 3, hj => simp at hj; subst hj; simp [Addr.add]
theorem stC_one (s : F.St) : ∀ u ∈ stC s, u.oneCell' = true := by
  intro u hu
  simp only [stC, List.mem_cons, List.not_mem_nil, or_false] at hu
  rcases hu with rfl | rfl | rfl | rfl <;> rfl

theorem wp_region_tail {P : Program} {id : Nat} {Q : Exit → Act → World → Prop} {a : Act} {w : World} {l : List Oper} (n : Nat) (hm : P.follows .mixedOrders = true) (hB : Region.lexTailB .any l.toArray n = true)
    (h : wpStill P l.toArray w.drew (fun a' => wpList P l.toArray Q (l.drop n) a' w.drew) (l.take n) a) : (Code.region id l.toArray true).wp P Q a w := wp_region_still_tail n hm hB h
/-- Row c multiplied, as far as place j. -/
def sc (m : Nat → Nat → F) (c : Nat) (z : F) (j i' j' : Nat) : F := if i' = c ∧ j' < j then F.mu (m i' j') z else m i' j'
/-- Row c times z added to row i, as far as place j. -/
def ad (m : Nat → Nat → F) (i c : Nat) (z : F) (j i' j' : Nat) : F := if i' = i ∧ j' < j then F.add (m i' j') (F.mu z (m c j')) else m i' j'
theorem sc_here (m : Nat → Nat → F) (c : Nat) (z : F) (j : Nat) : sc m c z j c j = m c j := by unfold sc; rw [if_neg (by omega)]
theorem ad_here (m : Nat → Nat → F) (i c : Nat) (z : F) (j : Nat) : ad m i c z j i j = m i j := by unfold ad; rw [if_neg (by omega)]
theorem ad_c {i c : Nat} (m : Nat → Nat → F) (h : i ≠ c) (z : F) (j j' : Nat) : ad m i c z j c j' = m c j' := by unfold ad; rw [if_neg (by omega)]
theorem sc_next (m : Nat → Nat → F) (c : Nat) (z : F) (j : Nat) {k : Nat} : ∀ i' j', i' < k → j' < k → (if i' = c ∧ j' = j then F.mu (m c j) z else sc m c z j i' j') = sc m c z (j + 1) i' j' := fun i' j' _ _ => by
  unfold sc
  by_cases e1 : i' = c
  · subst e1
    by_cases e2 : j' = j
    · subst e2
      rw [if_pos ⟨rfl, rfl⟩, if_pos ⟨rfl, by omega⟩]
    · rw [if_neg (fun x => e2 x.2)]
      by_cases e3 : j' < j
      · rw [if_pos ⟨rfl, e3⟩, if_pos ⟨rfl, by omega⟩]
      · rw [if_neg (fun x => e3 x.2), if_neg (fun x => by have := x.2; omega)]
  · rw [if_neg (fun x => e1 x.1), if_neg (fun x => e1 x.1), if_neg (fun x => e1 x.1)]
theorem sc_end (m : Nat → Nat → F) (c : Nat) (z : F) (k : Nat) : ∀ i' j', i' < k → j' < k → sc m c z k i' j' = F.apM ⟨1, c, c, z⟩ m i' j' := fun i' j' _ hj => by
  unfold sc
  by_cases e1 : i' = c
  · subst e1
    rw [if_pos ⟨rfl, hj⟩]
    simp [F.apM, F.ap]
  · rw [if_neg (fun x => e1 x.1)]
    simp [F.apM, F.ap, e1]
theorem ad_next (m : Nat → Nat → F) (i c : Nat) (z : F) (j : Nat) {k : Nat} : ∀ i' j', i' < k → j' < k → (if i' = i ∧ j' = j then F.add (m i j) (F.mu z (m c j)) else ad m i c z j i' j') = ad m i c z (j + 1) i' j' := fun i' j' _ _ => by
  unfold ad
  by_cases e1 : i' = i
  · subst e1
    by_cases e2 : j' = j
    · subst e2
      rw [if_pos ⟨rfl, rfl⟩, if_pos ⟨rfl, by omega⟩]
    · rw [if_neg (fun x => e2 x.2)]
      by_cases e3 : j' < j
      · rw [if_pos ⟨rfl, e3⟩, if_pos ⟨rfl, by omega⟩]
      · rw [if_neg (fun x => e3 x.2), if_neg (fun x => by have := x.2; omega)]
  · rw [if_neg (fun x => e1 x.1), if_neg (fun x => e1 x.1), if_neg (fun x => e1 x.1)]
theorem ad_end (m : Nat → Nat → F) (i c : Nat) (z : F) (k : Nat) : ∀ i' j', i' < k → j' < k → ad m i c z k i' j' = F.apM ⟨2, i, c, z⟩ m i' j' := fun i' j' _ hj => by
  unfold ad
  by_cases e1 : i' = i
  · subst e1
    rw [if_pos ⟨rfl, hj⟩]
    simp [F.apM, F.ap]
  · rw [if_neg (fun x => e1 x.1)]
    simp [F.apM, F.ap, e1]
theorem refMul_val (a b : F) : refMul a.val b.val = (F.mu a b).val := refMul_eq a.isLt b.isLt

set_option maxHeartbeats 8000000 in
set_option maxRecDepth 100000 in
theorem solve_any (B k g hc : Nat) (bl cp : Nat → Nat) (M : Nat → Nat → F) (w : World) (hk : k ≤ 128) (hB : B ≤ w.heap.size) (h0 : SS B k g hc bl cp M [] (.slice none 0 0) w w) (hi : F.Inj k M) :
    Calls Try.prog 33 #[.slice (some ⟨g, 0, none⟩) k hc] w fun e w' => SolvePost B k M w e w' := by
  obtain ⟨i0, hi0, hz0, hz1, hz2⟩ := info_parts Try.infoS
  go_enter Try.func33, Try.ntmps33
  go_wp2
  go_loopw [3, 5, 6, 7, 8, 9, 10, 11] (fun vl vc _ _ _ _ _ _ wr => OutI B k g hc M w vl vc wr) (fun _ vc _ _ _ _ _ _ _ => k - (intOf vc).toNat)
  case atStart => exact ⟨0, M, [], bl, cp, by omega, rfl, h0, F.rs_start k M, fun _ _ _ h => absurd h (by omega), by simp⟩
  case round =>
    clear h0
    obtain ⟨c, m, l, bl', cp', hck, rfl, hS, hR, hU, hll⟩ := hrel
    by_cases hlt : c < k
    · have hlt' : (c : Int) < (k : Int) := by omega
      go_wp2
      go_loopw [6] (fun vr wq => ∃ r : Nat, c ≤ r ∧ r ≤ k ∧ vr = .int .i64 ((r : Nat) : Int) ∧ (∀ i, c ≤ i → i < r → m i c = 0) ∧ wq = wr) (fun i _ => k - (intOf i).toNat)
      case atStart => exact ⟨c, by omega, by omega, rfl, fun i h1 h2 => absurd h2 (by omega), rfl⟩
      case round =>
        obtain ⟨r, hr1, hr2, rfl, hz, rfl⟩ := hrel
        by_cases hrk : r < k
        · have hrk' : (r : Int) < (k : Int) := by omega
          have g1 := hS.h hrk
          have g2 := hS.r hrk hlt
          by_cases hne : m r c = 0
          · have hv : (m r c).val = 0 := by rw [hne]; rfl
            rw [hv] at g2
            go_wp2
            go_roundw
            case rel =>
              refine ⟨r + 1, by omega, by omega, by go_num, fun i h1 h2 => ?_, trivial⟩
              by_cases e : i = r
              · rw [e]; exact hne
              · exact hz i h1 (by omega)
            case measure => simp [intOf]; omega
          · have hv : ((((m r c).val : Nat) : Int) == 0) = false := by
              have : (m r c).val ≠ 0 := fun e => hne (Fin.ext e)
              simp; omega
            have hrk2 : ((r : Int) == (k : Int)) = false := by simp; omega
            have hbd : c * (k + 2) ≤ 128 * 130 := Nat.mul_le_mul (by omega) (by omega)
            have hBr : B ≤ wr.heap.size := Nat.le_trans hB hS.bel.size
            clear hz
            go_wp2_with (at_builtin; refine wpList_append_own _ rfl _ _ 53 rfl B 56 i0 (.agg #[.int .i64 0, .int .i64 0, .int .i64 0, .int .u8 0]) 4 32 Try.underlying53 hi0 hz0 hz1 hz2 rfl (by decide) _ _ _ rfl (hS.st.alloc _) ⟨wr.heap.size, 0, none⟩ 1 1 (stC ⟨0, c, r, 0⟩) rfl rfl (cell_four_new _ _ _ _ _ _) (stC_one _) (by unfold maxLen; omega) (by omega) (by simp; omega) ?_; intro v' w1 hown' hgrow _)
            have hS1 := hS.push (s := ⟨0, c, r, 0⟩) ((Below.refl wr.heap.size wr).alloc (Nat.le_refl _) _) hgrow hown' hBr
            have hB1 : B ≤ w1.heap.size := Nat.le_trans hB hS1.bel.size
            clear hown' hgrow hS hBr g1 g2
            have a1 := hS1.h hlt
            have a2 := hS1.h hrk
            have f1 := hS1.fh c
            have f2 := hS1.fh r
            have hS2 := hS1.swap hlt hrk
            have d0 := (hS1.head.stored c (.slice (some ⟨bl' r, 0, none⟩) k (cp' r))).1
            have d1 : ∃ y, (w1.setCell ⟨g, c, none⟩ (.slice (some ⟨bl' r, 0, none⟩) k (cp' r))).cell? ⟨g, r, none⟩ = some y := by
              rw [d0.cellAt r (by omega), hdL_set]
              exact ⟨_, hdL_get _ _ hrk⟩
            obtain ⟨y, d1⟩ := d1
            have d2 := d0.frozenAt r
            clear d0
            go_wp2
            go_region
            have hS3 := hS2.same (w' := ((w1.setCell ⟨g, c, none⟩ (.slice (some ⟨bl' r, 0, none⟩) k (cp' r))).setCell ⟨g, r, none⟩ (.slice (some ⟨bl' c, 0, none⟩) k (cp' c))).drew) rfl rfl rfl rfl
            have hB3 : B ≤ (((w1.setCell ⟨g, c, none⟩ (.slice (some ⟨bl' r, 0, none⟩) k (cp' r))).setCell ⟨g, r, none⟩ (.slice (some ⟨bl' c, 0, none⟩) k (cp' c))).drew).heap.size := Nat.le_trans hB hS3.bel.size
            have em : F.apM ⟨0, c, r, 0⟩ m c c = m r c := by simp [F.apM, F.ap]
            have hE := F.el_start hR hU hlt hr1 hrk hne
            clear hS1 hS2 a1 a2 f1 f2 d1 d2 hB1
            generalize (((w1.setCell ⟨g, c, none⟩ (.slice (some ⟨bl' r, 0, none⟩) k (cp' r))).setCell ⟨g, r, none⟩ (.slice (some ⟨bl' c, 0, none⟩) k (cp' c))).drew) = w3 at *
            generalize swp c r bl' = bl3 at *
            generalize swp c r cp' = cp3 at *
            generalize F.apM ⟨0, c, r, 0⟩ m = m1 at *
            have g1 := hS3.h hlt
            have g2 := hS3.r hlt hlt
            rw [em] at g2
            have ci := fun u => rinv_any (m r c).val (m r c).isLt u
            have ez : inv (m r c).val = (F.iv (m r c)).val := rfl
            rw [ez] at ci
            generalize F.iv (m r c) = z at *
            clear ez
            go_wp2_with (first | (go_at_call 11; (with_reducible refine (ci _).mono ?_); rintro e w' ⟨rfl, hw'⟩; obtain rfl := hw'.symm) | (at_builtin; refine wpList_append_own _ rfl _ _ 53 rfl B 56 i0 (.agg #[.int .i64 0, .int .i64 0, .int .i64 0, .int .u8 0]) 4 32 Try.underlying53 hi0 hz0 hz1 hz2 rfl (by decide) _ _ _ rfl (hS3.st.alloc _) ⟨w3.heap.size, 0, none⟩ 1 1 (stC ⟨1, c, c, z⟩) rfl rfl (cell_four_new _ _ _ _ _ _) (stC_one _) (by unfold maxLen; simp; omega) (by simp; omega) (by simp; omega) ?_; intro v4 w4 hown4 hgrow4 _))
            have hS4 := hS3.push (s := ⟨1, c, c, z⟩) ((Below.refl w3.heap.size w3).alloc (Nat.le_refl _) _) hgrow4 hown4 hB3
            clear hown4 hgrow4 hS3 g1 g2 ci
            go_wp2
            go_loopw [8] (fun vj wq => ∃ j : Nat, j ≤ k ∧ vj = .int .i64 ((j : Nat) : Int) ∧ SS B k g hc bl3 cp3 (sc m1 c z j) (l ++ [⟨0, c, r, 0⟩] ++ [⟨1, c, c, z⟩]) v4 w wq) (fun i _ => k - (intOf i).toNat)
            case atStart => exact ⟨0, by omega, rfl, hS4.congr fun i j _ _ => by unfold sc; rw [if_neg (by omega)]⟩
            case round =>
              clear hS4
              obtain ⟨j, hj, rfl, hS5⟩ := hrel
              by_cases hjk : j < k
              · have hjk' : (j : Int) < (k : Int) := by omega
                have g1 := hS5.h hlt
                have g2 := hS5.r hlt hjk
                rw [sc_here] at g2
                have f1 := hS5.fr hlt j
                have cm := fun u => rmul_any (m1 c j).val z.val (m1 c j).isLt z.isLt u
                rw [refMul_val] at cm
                have hS6 := (hS5.set (j := j) hlt (F.mu (m1 c j) z)).congr (m' := sc m1 c z (j + 1)) (sc_next m1 c z j)
                generalize F.mu (m1 c j) z = mz at *
                clear hS5
                go_wp2_with fail
                refine wp_region_tail 15 mixed (by kernel_rfl) ?_
                simp only [List.take_succ_cons, List.take_zero, List.drop_succ_cons, List.drop_zero]
                repeat still_step
                still_call (cm _)
                repeat still_step
                refine wpStill_nil ?_
                go_wp2
                have hS7 := hS6.same (w' := (wr.setCell ⟨bl3 c, j, none⟩ (.int .u8 ((mz.val : Nat) : Int))).drew) rfl rfl rfl rfl
                go_roundw
                case rel => exact ⟨j + 1, by omega, by go_num, hS7⟩
                case measure => simp [intOf]; omega
              · obtain rfl : j = k := by omega
                have hS6 := hS5.congr (m' := F.apM ⟨1, c, c, z⟩ m1) (sc_end m1 c z j)
                have hnl : ¬ ((j : Int) < (j : Int)) := by omega
                have hl2 : (l ++ [⟨0, c, r, 0⟩] ++ [⟨1, c, c, z⟩] : List F.St).length ≤ c * (j + 2) + 2 := by simp; omega
                have h0 : AddI B j g hc bl3 cp3 M c w v4 (.int .i64 0) wr := ⟨0, _, _, by omega, rfl, hS6, hE, by omega⟩
                clear hS5 hS6 hE hl2 hR hU
                go_wp2
                go_loopw [3, 9, 10, 11] (fun vl vi _ _ wq => AddI B j g hc bl3 cp3 M c w vl vi wq) (fun _ vi _ _ _ => j - (intOf vi).toNat)
                case atStart => exact h0
                case round =>
                  clear h0
                  obtain ⟨i, m2, l2, hik, rfl, hS, hE, hl2⟩ := hrel
                  by_cases hij : i < j
                  · have hij' : (i : Int) < (j : Int) := by omega
                    have g1 := hS.h hij
                    have g2 := hS.r hij hlt
                    by_cases hic : i = c
                    · subst hic
                      have hE2 := hE.skip (.inl rfl)
                      go_wp2
                      go_roundw
                      case rel => exact ⟨i + 1, m2, l2, by omega, by go_num, hS, hE2, by omega⟩
                      case measure => simp [intOf]; omega
                    · have hic' : ((i : Int) == (c : Int)) = false := by simp; omega
                      by_cases hz0' : m2 i c = 0
                      · have hE2 := hE.skip (.inr hz0')
                        rw [show (m2 i c).val = 0 by rw [hz0']; rfl] at g2
                        go_wp2
                        go_roundw
                        case rel => exact ⟨i + 1, m2, l2, by omega, by go_num, hS, hE2, by omega⟩
                        case measure => simp [intOf]; omega
                      · have hv' : ((((m2 i c).val : Nat) : Int) == 0) = false := by
                          have : (m2 i c).val ≠ 0 := fun e => hz0' (Fin.ext e)
                          simp; omega
                        have hBr : B ≤ wr.heap.size := Nat.le_trans hB hS.bel.size
                        have hE2 := hE.add hlt hij hic
                        generalize ezz : m2 i c = zz at *
                        go_wp2_with (at_builtin; refine wpList_append_own _ rfl _ _ 53 rfl B 56 i0 (.agg #[.int .i64 0, .int .i64 0, .int .i64 0, .int .u8 0]) 4 32 Try.underlying53 hi0 hz0 hz1 hz2 rfl (by decide) _ _ _ rfl (hS.st.alloc _) ⟨wr.heap.size, 0, none⟩ 1 1 (stC ⟨2, i, c, zz⟩) rfl rfl (cell_four_new _ _ _ _ _ _) (stC_one _) (by unfold maxLen; omega) (by omega) (by simp; omega) ?_; intro v' w1 hown' hgrow _)
                        have hS1 := hS.push (s := ⟨2, i, c, zz⟩) ((Below.refl wr.heap.size wr).alloc (Nat.le_refl _) _) hgrow hown' hBr
                        clear hown' hgrow hS hBr g1 g2 hE
                        go_wp2
                        go_loopw [11] (fun vj wq => ∃ t : Nat, t ≤ j ∧ vj = .int .i64 ((t : Nat) : Int) ∧ SS B j g hc bl3 cp3 (ad m2 i c zz t) (l2 ++ [⟨2, i, c, zz⟩]) v' w wq) (fun x _ => j - (intOf x).toNat)
                        case atStart => exact ⟨0, by omega, rfl, hS1.congr fun i' j' _ _ => by unfold ad; rw [if_neg (by omega)]⟩
                        case round =>
                          clear hS1
                          obtain ⟨t, htj, rfl, hS5⟩ := hrel
                          by_cases htk : t < j
                          · have htk' : (t : Int) < (j : Int) := by omega
                            have g1 := hS5.h hij
                            have g2 := hS5.r hij htk
                            have g3 := hS5.h hlt
                            have g4 := hS5.r hlt htk
                            rw [ad_here] at g2
                            rw [ad_c m2 hic] at g4
                            have f1 := hS5.fr hij t
                            have cm := fun u => rmul_any zz.val (m2 c t).val zz.isLt (m2 c t).isLt u
                            rw [refMul_val] at cm
                            have hx := u8_xor_nat (m2 i t).val (F.mu zz (m2 c t)).val (m2 i t).isLt (F.mu zz (m2 c t)).isLt
                            rw [show (m2 i t).val ^^^ (F.mu zz (m2 c t)).val = (F.add (m2 i t) (F.mu zz (m2 c t))).val from rfl] at hx
                            have hS6 := (hS5.set (j := t) hij (F.add (m2 i t) (F.mu zz (m2 c t)))).congr (m' := ad m2 i c zz (t + 1)) (ad_next m2 i c zz t)
                            generalize F.add (m2 i t) (F.mu zz (m2 c t)) = az at *
                            generalize F.mu zz (m2 c t) = mz at *
                            clear hS5
                            go_wp2_with fail
                            refine wp_region_tail 23 mixed (by kernel_rfl) ?_
                            simp only [List.take_succ_cons, List.take_zero, List.drop_succ_cons, List.drop_zero]
                            repeat still_step
                            still_call (cm _)
                            repeat still_step
                            refine wpStill_nil ?_
                            go_wp2
                            have hS7 := hS6.same (w' := (wr.setCell ⟨bl3 i, t, none⟩ (.int .u8 ((az.val : Nat) : Int))).drew) rfl rfl rfl rfl
                            go_roundw
                            case rel => exact ⟨t + 1, by omega, by go_num, hS7⟩
                            case measure => simp [intOf]; omega
                          · obtain rfl : t = j := by omega
                            have hS6 := hS5.congr (m' := F.apM ⟨2, i, c, zz⟩ m2) (ad_end m2 i c zz t)
                            have hnl3 : ¬ ((t : Int) < (t : Int)) := by omega
                            go_wp2
                            go_roundw
                            case rel => exact ⟨i + 1, _, _, by omega, by go_num, hS6, hE2, by simp; omega⟩
                            case measure => simp [intOf]; omega
                  · obtain rfl : i = j := by omega
                    have hnl2 : ¬ ((i : Int) < (i : Int)) := by omega
                    go_wp2
                    go_roundw
                    case rel => exact ⟨c + 1, m2, l2, bl3, cp3, by omega, by go_num, hS, hE.rs, hE.done hlt, by rw [Nat.succ_mul]; omega⟩
                    case measure => simp [intOf]; omega
        · obtain rfl : r = k := by omega
          obtain ⟨r', h1, h2, h3⟩ := hR.pivot hi hU hlt
          exact absurd (hz r' h1 h2) h3
    · obtain rfl : c = k := by omega
      have hnl : ¬ ((c : Int) < (c : Int)) := by omega
      go_wp2
      go_ret
      exact ⟨_, m, l, rfl, hS.st, hR, hU, hS.bel, hll⟩
end Go.Proofs.Ytkpcmfgeanlcnaa

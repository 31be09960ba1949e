/-
  How the program reads a shard: the manifest, whole (listing.read).
-/
import Derived.Test.YtkpcmfgeanlcnaaDoorPrJ
namespace Go.Proofs.YtkpcmfgeanlcnaaDoor
open Go.RowKit Go.Deep

/-- It stays where the first blocks lie as they lay. -/
theorem Pow.but {w w' : World} {B : Nat} {S : Nat → Prop} (h : Pow w) (hb : But B S w w') (hB : ∀ k, k < 4 → k < B ∧ ¬ S k) : Pow w' := by
  have hg : ∃ g, g < 4 ∧ Tryd.prog.globalNamed "internal/strconv.uint64pow10" = some g := by
    exact ⟨3, by decide, by kernel_rfl⟩
  obtain ⟨g, hg16, hg⟩ := hg
  unfold Pow Lib.TabIs World.var? at h ⊢
  rw [hg] at h ⊢
  simp only [Option.bind_some] at h ⊢
  rw [hb.block g (hB g hg16).1 (hB g hg16).2]
  exact h

/-- What the manifest's reading leaves. -/
def ListPost (B : Nat) (w : World) (lb b off ct : Nat) (u : List UInt8) (pl : Nat) (q : Ending) (w' : World) : Prop :=
  But B (· = lb) w w' ∧ match listP u with
  | .error p => ∃ v d, d ≤ 1 ∧ q = .returned v ∧ Chain w' d v 7 (pl + p)
  | .ok (ns, zs) => q = .returned .nilIface ∧ ∃ vN vS a, LsI B w' lb b off ct u pl a vN vS ns zs

section
variable (B lb b off ct : Nat) (u : List UInt8) (pl : Nat) (hlB : lb < B) (hbB : b < B) (hlb : lb ≠ b) (hu4 : 4 ≤ u.length) (hu : u.length ≤ 1000000) (hct : u.length < ct) (hpl : pl ≤ 1000000000000) (w : World) (I : LsI B w lb b off ct u pl 0 (.slice none 0 0) (.slice none 0 0) [] []) (hP : Pow w) (hl16 : 4 ≤ lb)
set_option maxHeartbeats 4000000 in
set_option maxRecDepth 100000 in
include hlB hbB hlb hu4 hu hct hpl I hP hl16 in
theorem lread_any : Calls Tryd.prog 151 #[.pointer (some ⟨lb, 0, none⟩)] w fun q w' => ListPost B w lb b off ct u pl q w' := by
  have c0 := RowAt.cell I.ls (i := 0) rfl
  have c2 := RowAt.cell I.ls (i := 2) rfl
  have f2 := RowAt.frozen I.ls 2
  have e4 : (part u 0 4).length = 4 := part_length (by omega)
  have hle4 : le (part u 0 4) 0 4 = le u 0 4 := by
    simp only [le]
    rw [part_at (by omega), part_at (by omega), part_at (by omega), part_at (by omega)]
  have K4 := fun cap => readNumber_any b off 4 cap (part u 0 4) e4 (by omega) w (by have := I.byt.part (a := 0) (n := 4) (by omega); exact this)
  rw [hle4] at K4
  have hN32 : le u 0 4 < 2 ^ 32 := le_lt u 4 0
  obtain ⟨N, eN⟩ : ∃ N, le u 0 4 = N := ⟨_, rfl⟩
  rw [eN] at K4 hN32
  by_cases q1 : 1000 < N
  · have HL : Hid (listP u = .error 0) := by show _ = _; unfold listP; rw [eN, if_pos q1]
    have KW := wrong_any lb _ pl 0 _ _ _ hpl (by omega) w I.ls 0 0 pl rfl (by omega) (by omega)
    clear e4 hle4 eN
    go_enter Tryd.func151, Tryd.ntmps151
    go_wp2_with (first | (go_at_call 154; refine (K4 _).mono ?_; rintro q w' ⟨rfl, hw'⟩; obtain rfl := hw'.symm) | (go_at_call 156; refine KW.mono ?_; rintro q w2 ⟨v, rfl, g1, g2⟩))
    go_ret
    refine ⟨(But.of_below g2).mono I.size (fun _ x => x), ?_⟩
    rw [HL.out]
    exact ⟨_, 0, by omega, rfl, g1⟩
  · have HL : Hid (listP u = loopP u N 4 [] []) := by show _ = _; unfold listP; rw [eN, if_neg q1]
    have J0 : LsJ B w w lb b off ct u pl 0 (.slice none 0 0) (.slice none 0 0) [] [] 0 := ⟨I.ls, I.on, I.os, I.ap, I.byt, I.size, But.refl _ _ _⟩
    have J1 := J0.setA hlB hbB hlb 4
    clear J0 I e4 hle4 eN
    go_enter Tryd.func151, Tryd.ntmps151
    go_wp2_with (first | (go_at_call 154; refine (K4 _).mono ?_; rintro q w' ⟨rfl, hw'⟩; obtain rfl := hw'.symm))
    have J2 : LsJ B w (w.setCell ⟨lb, 2, none⟩ (.int .i64 4)) lb b off ct u pl 4 (.slice none 0 0) (.slice none 0 0) [] [] 0 := J1
    clear J1 K4 c0 c2 f2
    generalize w.setCell ⟨lb, 2, none⟩ (.int .i64 4) = w1 at J2 ⊢
    go_loopw [21] (fun vi wr => ∃ (c a : Nat) (ns : List (List UInt8)) (zs : List Nat) (vN vS : Value), c ≤ N ∧ a ≤ u.length ∧ vi = .int .i64 (c : Int) ∧ Hid (ns.length = c) ∧ Hid (zs.length = ns.length) ∧ Hid (zs.sum ≤ 65536) ∧ LsI B wr lb b off ct u pl a vN vS ns zs ∧ But B (· = lb) w wr ∧ Hid (listP u = loopP u (N - c) a ns zs)) (fun i _ => N - (intOf i).toNat)
    case atStart => exact ⟨0, 4, [], [], _, _, by omega, hu4, rfl, rfl, rfl, (show ([] : List Nat).sum ≤ 65536 by simp), ⟨J2.ls, J2.on, J2.os, J2.ap, J2.byt, J2.size⟩, J2.but, HL⟩
    case round =>
      obtain ⟨c, a, ns, zs, vN, vS, hc, ha, rfl, H1, H2, H3, I, hb, HR⟩ := hrel
      clear J2 HL
      have hPr : Pow wr := hP.but hb (fun k hk => ⟨by omega, by omega⟩)
      by_cases hlt : c < N
      · have K := readBlob_any B lb b off ct u pl a vN vS ns zs hlB hbB hlb hu hct ha hpl (by rw [H1.out]; omega) H2.out H3.out wr I
        unfold BlobPost at K
        have HR2 : Hid (listP u = match blob1 u a ns zs with | .error p => .error p | .ok (nm, z) => loopP u (N - (c + 1)) (a + (6 + nm.length)) (ns ++ [nm]) (zs ++ [z])) := by
          show _ = _
          rw [HR.out, show N - c = (N - (c + 1)) + 1 by omega, loopP]
          all_goals rfl
        cases hbl : blob1 u a ns zs with
        | error p =>
          rw [hbl] at K HR2
          simp only at K HR2
          have hsz := I.size
          clear HR I hbl
          go_wp2_with (first | (go_at_call 157; refine K.mono ?_; rintro q w2 ⟨v, rfl, g1, g2⟩; have hP2 := hPr.but (S := fun _ => False) (.of_below g2) (fun k hk => ⟨by omega, id⟩); obtain ⟨ty, x, rfl⟩ := g1.iface) | (go_at_call 158; refine (itoa_any _ (by omega) (by omega) _ (by exact hP2)).mono ?_; rintro q w3 ⟨⟨s3, rfl, hs3⟩, g3⟩; have g4 := g1.under g3) | (go_at_call 104; refine (within_any _ 0 _ 7 (pl + p) _ (by exact g4)).mono ?_; rintro q w5 ⟨v5, rfl, g5, g6⟩))
          go_ret
          have h2s := g2.size
          have h3s := g3.size
          refine ⟨hb.trans ((But.of_below (g2.mono hsz)).trans ((But.of_below (g3.mono (by omega))).trans (.of_below (g6.mono (by omega))))), ?_⟩
          rw [HR2.out]
          exact ⟨_, 1, by omega, rfl, g5⟩
        | ok x =>
          obtain ⟨nm, z⟩ := x
          rw [hbl] at K HR2
          simp only at K HR2
          have hb1 := hbl
          unfold blob1 at hb1
          have hsum : zs.sum + z ≤ 65536 ∧ a + (6 + nm.length) ≤ u.length := by
            split at hb1
            · cases hb1
            · split at hb1
              · cases hb1
              · split at hb1
                · cases hb1
                · cases hb1
                  refine ⟨by omega, ?_⟩
                  rw [part_length (by omega)]
                  omega
          have HS : Hid (zs.sum + z ≤ 65536) := hsum.1
          have ha2 := hsum.2
          clear HR I hbl hb1 hsum H3
          go_wp2_with (first | (go_at_call 157; refine K.mono ?_; rintro q w2 ⟨rfl, g1, vN2, vS2, g2⟩))
          go_roundw
          case rel => exact ⟨c + 1, _, ns ++ [nm], zs ++ [z], vN2, vS2, by omega, ha2, by go_num, (show (ns ++ [nm]).length = c + 1 by rw [List.length_append, H1.out]; rfl), (show (zs ++ [z]).length = (ns ++ [nm]).length by rw [List.length_append, List.length_append, H2.out]; rfl), (show (zs ++ [z]).sum ≤ 65536 by rw [List.sum_append]; have := HS.out; simpa using this), g2, hb.trans g1, HR2⟩
          case measure => simp [intOf]; omega
      · obtain rfl : c = N := by omega
        have HR2 : Hid (listP u = if a < u.length then .error a else .ok (ns, zs)) := by
          show _ = _
          rw [HR.out, Nat.sub_self, loopP]
        have c0 := RowAt.cell I.ls (i := 0) rfl
        have c2 := RowAt.cell I.ls (i := 2) rfl
        have KW := fun n => wrong_any lb _ pl a _ _ _ hpl (by omega) (wr.drewN n) (I.ls.drewN n) 0 0 (pl + a) rfl (by omega) (by omega)
        have hsz := I.size
        by_cases q2 : a < u.length
        · have HX : Hid (listP u = .error a) := by show _ = _; rw [HR2.out, if_pos q2]
          clear HR HR2 I
          go_wp2_with fail
          go_big_quiet (fail)
          go_wp2_with (first | (go_at_call 156; refine (KW _).mono ?_; rintro q w2 ⟨v, rfl, g1, g2⟩))
          go_ret
          have g3 : Below wr.heap.size wr w2 := ⟨g2.os, g2.tape, g2.output, g2.size, g2.block⟩
          refine ⟨hb.trans (.of_below (g3.mono hsz)), ?_⟩
          rw [HX.out]
          exact ⟨_, 0, by omega, rfl, g1⟩
        · have HX : Hid (listP u = .ok (ns, zs)) := by show _ = _; rw [HR2.out, if_neg q2]
          have I' := fun n => I.drewN n
          clear HR HR2 KW I
          go_wp2_with fail
          go_big_quiet (fail)
          go_wp2
          go_ret
          refine ⟨hb.drewN _, ?_⟩
          rw [HX.out]
          exact ⟨rfl, vN, vS, a, I' _⟩
end
end Go.Proofs.YtkpcmfgeanlcnaaDoor

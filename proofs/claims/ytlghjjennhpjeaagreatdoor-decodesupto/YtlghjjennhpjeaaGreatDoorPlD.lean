/-
  How the program reads a shard: the manifest, whole (listing.read).
-/
import Derived.Test.YtlghjjennhpjeaaGreatDoorPrI
import Derived.Test.YtlghjjennhpjeaaGreatDoorShelf
import Derived.Lib.ItoaLen
import Derived.Test.YtlghjjennhpjeaaGreatDoorPrH
import Derived.Laws.MakeOwn
import Derived.Test.YtlghjjennhpjeaaGreatDoorPrN
namespace Go.Proofs.YtlghjjennhpjeaaGreatDoor
open Go.RowKit Go.Deep

/-- The table of powers of ten lies as it is laid. -/
def Pow (w : World) : Prop := Lib.TabIs Tryz.prog w "internal/strconv.uint64pow10" .u64 Lib.pow10Tab
theorem below_grow (w : World) (k : Nat) (os : Array Obj) : Below w.heap.size w (Sort.grow (w.drewN k) os) :=
  ⟨rfl, rfl, rfl, by simp, fun i hi => by
    rw [Sort.heap_grow_old _ _ (by exact hi)]; rfl⟩
theorem itoa_any (n : Int) (h0 : 0 ≤ n) (h1 : n ≤ 100000) (w : World) (h : Pow w) :
    Calls Tryz.prog 143 #[.int .i64 n] w fun e w' => (∃ s : ByteArray, e = .returned (.string s) ∧ s.size ≤ 21) ∧ Below w.heap.size w w' := by
  refine (Any.strconv_Itoa Tryz.lays171 n (by omega) (by omega) w h).mono ?_
  rintro e w' ⟨rfl, k, os, rfl⟩
  have hl := Lib.itoa_length_le n (by omega) (by omega)
  exact ⟨⟨_, rfl, by simpa [ByteArray.size] using hl⟩, below_grow w k os⟩
section
variable (B lb b off ct : Nat) (u : List UInt8) (pl a : Nat) (vN vS : Value) (ns : List (List UInt8)) (zs : List Nat) (hlB : lb < B) (hbB : b < B) (hlb : lb ≠ b) (hu : u.length ≤ 1000000) (hct : u.length < ct) (ha : a ≤ u.length) (hpl : pl ≤ 1000000000000) (hns : ns.length < 1000) (hzl : zs.length = ns.length) (hzs : zs.sum ≤ 65536) (w : World) (I : LsI B w lb b off ct u pl a vN vS ns zs)
include hlB hbB hlb hu hct ha hpl hns hzl hzs I in
theorem readBlob_any : Calls Tryz.prog 142 #[.pointer (some ⟨lb, 0, none⟩)] w fun q w' => BlobPost B w lb b off ct u pl a ns zs q w' := by
  by_cases q1 : u.length < a + 6 ∨ le u a 2 < 1 ∨ 255 < le u a 2 ∨ u.length < a + 6 + le u a 2
  · refine (readBlob_1 B lb b off ct u pl a vN vS ns zs hu hct ha hpl w I q1).mono fun q w' h => ?_
    unfold BlobPost blob1
    rw [if_pos q1]
    exact h
  · by_cases q2 : 0 < ns.length ∧ notBehind (part u (a + 2) (le u a 2)) (ns.getD (ns.length - 1) []) = true
    · refine (readBlob_2 B lb b off ct u pl a vN vS ns zs hu hct ha hpl hns w I (le u a 2) rfl (by omega) (by omega) (by omega) _ rfl q2.1 q2.2).mono fun q w' h => ?_
      unfold BlobPost blob1
      rw [if_neg q1, if_pos q2]
      exact h
    · have q2' : 0 < ns.length → notBehind (part u (a + 2) (le u a 2)) (ns.getD (ns.length - 1) []) = false := fun h => by
        cases hh : notBehind (part u (a + 2) (le u a 2)) (ns.getD (ns.length - 1) []) with
        | false => rfl
        | true => exact absurd ⟨h, hh⟩ q2
      by_cases q3 : 65536 < zs.sum + le u (a + 2 + le u a 2) 4
      · refine (readBlob_3 B lb b off ct u pl a vN vS ns zs hu hct ha hpl hns hzs w I (le u a 2) rfl (by omega) (by omega) (by omega) _ rfl _ rfl q3 q2').mono fun q w' h => ?_
        unfold BlobPost blob1
        rw [if_neg q1, if_neg q2, if_pos q3]
        have e : a + 2 + le u a 2 = a + (2 + le u a 2) := by omega
        simp only
        rw [e]
        exact h
      · refine (readBlob_4 B lb b off ct u pl a vN vS ns zs hlB hbB hlb hu hct ha hpl hns hzl hzs w I (le u a 2) rfl (by omega) (by omega) (by omega) _ rfl _ rfl (by omega) q2').mono fun q w' h => ?_
        unfold BlobPost blob1
        rw [if_neg q1, if_neg q2, if_neg q3]
        exact h
end
end Go.Proofs.YtlghjjennhpjeaaGreatDoor

/-
  How the program reads a shard: the manifest, whole (listing.read).
-/
namespace Go.Proofs.YtlghjjennhpjeaaGreatDoor
open Go.RowKit Go.Deep

/-- It stays where the first blocks lie as they lay. -/
theorem Pow.but {w w' : World} {B : Nat} {S : Nat → Prop} (h : Pow w) (hb : But B S w w') (hB : ∀ k, k < 5 → k < B ∧ ¬ S k) : Pow w' := by
  have hg : ∃ g, g < 5 ∧ Tryz.prog.globalNamed "internal/strconv.uint64pow10" = some g := by
    exact ⟨4, by decide, by kernel_rfl⟩
  obtain ⟨g, hg16, hg⟩ := hg
  unfold Pow Lib.TabIs World.var? at h ⊢
  rw [hg] at h ⊢
  simp only [Option.bind_some] at h ⊢
  rw [hb.block g (hB g hg16).1 (hB g hg16).2]
  exact h

/-- What the manifest's reading leaves. -/
def ListPost (B : Nat) (w : World) (lb b off ct : Nat) (u : List UInt8) (pl : Nat) (q : Ending) (w' : World) : Prop :=
  But B (· = lb) w w' ∧ match listP u with
  | .error p => ∃ v d, d ≤ 1 ∧ q = .returned v ∧ Chain w' d v 7 (pl + p)
  | .ok (ns, zs) => q = .returned .nilIface ∧ ∃ vN vS a, LsI B w' lb b off ct u pl a vN vS ns zs

section
variable (B lb b off ct : Nat) (u : List UInt8) (pl : Nat) (hlB : lb < B) (hbB : b < B) (hlb : lb ≠ b) (hu4 : 4 ≤ u.length) (hu : u.length ≤ 1000000) (hct : u.length < ct) (hpl : pl ≤ 1000000000000) (w : World) (I : LsI B w lb b off ct u pl 0 (.slice none 0 0) (.slice none 0 0) [] []) (hP : Pow w) (hl16 : 5 ≤ lb)
set_option maxHeartbeats 4000000 in
set_option maxRecDepth 100000 in
include hlB hbB hlb hu4 hu hct hpl I hP hl16 in
theorem lread_any : Calls Tryz.prog 133 #[.pointer (some ⟨lb, 0, none⟩)] w fun q w' => ListPost B w lb b off ct u pl q w' := by
  have c0 := RowAt.cell I.ls (i := 0) rfl
  have c2 := RowAt.cell I.ls (i := 2) rfl
  have f2 := RowAt.frozen I.ls 2
  have e4 : (part u 0 4).length = 4 := part_length (by omega)
  have hle4 : le (part u 0 4) 0 4 = le u 0 4 := by
    simp only [le]
    rw [part_at (by omega), part_at (by omega), part_at (by omega), part_at (by omega)]
  have K4 := fun cap => readNumber_any b off 4 cap (part u 0 4) e4 (by omega) w (by have := I.byt.part (a := 0) (n := 4) (by omega); exact this)
  rw [hle4] at K4
  have hN32 : le u 0 4 < 2 ^ 32 := le_lt u 4 0
  obtain ⟨N, eN⟩ : ∃ N, le u 0 4 = N := ⟨_, rfl⟩
  rw [eN] at K4 hN32
  by_cases q1 : 1000 < N
  · have HL : Hid (listP u = .error 0) := by show _ = _; unfold listP; rw [eN, if_pos q1]
    have KW := wrong_any lb _ pl 0 _ _ _ hpl (by omega) w I.ls 0 0 pl rfl (by omega) (by omega)
    clear e4 hle4 eN
    go_enter Tryz.func133, Tryz.ntmps133
    go_wp2_with (first | (go_at_call 139; refine (K4 _).mono ?_; rintro q w' ⟨rfl, hw'⟩; obtain rfl := hw'.symm) | (go_at_call 141; refine KW.mono ?_; rintro q w2 ⟨v, rfl, g1, g2⟩))
    go_ret
    refine ⟨(But.of_below g2).mono I.size (fun _ x => x), ?_⟩
    rw [HL.out]
    exact ⟨_, 0, by omega, rfl, g1⟩
  · have HL : Hid (listP u = loopP u N 4 [] []) := by show _ = _; unfold listP; rw [eN, if_neg q1]
    have J0 : LsJ B w w lb b off ct u pl 0 (.slice none 0 0) (.slice none 0 0) [] [] 0 := ⟨I.ls, I.on, I.os, I.ap, I.byt, I.size, But.refl _ _ _⟩
    have J1 := J0.setA hlB hbB hlb 4
    clear J0 I e4 hle4 eN
    go_enter Tryz.func133, Tryz.ntmps133
    go_wp2_with (first | (go_at_call 139; refine (K4 _).mono ?_; rintro q w' ⟨rfl, hw'⟩; obtain rfl := hw'.symm))
    have J2 : LsJ B w (w.setCell ⟨lb, 2, none⟩ (.int .i64 4)) lb b off ct u pl 4 (.slice none 0 0) (.slice none 0 0) [] [] 0 := J1
    clear J1 K4 c0 c2 f2
    generalize w.setCell ⟨lb, 2, none⟩ (.int .i64 4) = w1 at J2 ⊢
    go_loopw [21] (fun vi wr => ∃ (c a : Nat) (ns : List (List UInt8)) (zs : List Nat) (vN vS : Value), c ≤ N ∧ a ≤ u.length ∧ vi = .int .i64 (c : Int) ∧ Hid (ns.length = c) ∧ Hid (zs.length = ns.length) ∧ Hid (zs.sum ≤ 65536) ∧ LsI B wr lb b off ct u pl a vN vS ns zs ∧ But B (· = lb) w wr ∧ Hid (listP u = loopP u (N - c) a ns zs)) (fun i _ => N - (intOf i).toNat)
    case atStart => exact ⟨0, 4, [], [], _, _, by omega, hu4, rfl, rfl, rfl, (show ([] : List Nat).sum ≤ 65536 by simp), ⟨J2.ls, J2.on, J2.os, J2.ap, J2.byt, J2.size⟩, J2.but, HL⟩
    case round =>
      obtain ⟨c, a, ns, zs, vN, vS, hc, ha, rfl, H1, H2, H3, I, hb, HR⟩ := hrel
      clear J2 HL
      have hPr : Pow wr := hP.but hb (fun k hk => ⟨by omega, by omega⟩)
      by_cases hlt : c < N
      · have K := readBlob_any B lb b off ct u pl a vN vS ns zs hlB hbB hlb hu hct ha hpl (by rw [H1.out]; omega) H2.out H3.out wr I
        unfold BlobPost at K
        have HR2 : Hid (listP u = match blob1 u a ns zs with | .error p => .error p | .ok (nm, z) => loopP u (N - (c + 1)) (a + (6 + nm.length)) (ns ++ [nm]) (zs ++ [z])) := by
          show _ = _
          rw [HR.out, show N - c = (N - (c + 1)) + 1 by omega, loopP]
          all_goals rfl
        cases hbl : blob1 u a ns zs with
        | error p =>
          rw [hbl] at K HR2
          simp only at K HR2
          have hsz := I.size
          clear HR I hbl
          go_wp2_with (first | (go_at_call 142; refine K.mono ?_; rintro q w2 ⟨v, rfl, g1, g2⟩; have hP2 := hPr.but (S := fun _ => False) (.of_below g2) (fun k hk => ⟨by omega, id⟩); obtain ⟨ty, x, rfl⟩ := g1.iface) | (go_at_call 143; refine (itoa_any _ (by omega) (by omega) _ (by exact hP2)).mono ?_; rintro q w3 ⟨⟨s3, rfl, hs3⟩, g3⟩; have g4 := g1.under g3) | (go_at_call 24; refine (within_any _ 0 _ 7 (pl + p) _ (by exact g4)).mono ?_; rintro q w5 ⟨v5, rfl, g5, g6⟩))
          go_ret
          have h2s := g2.size
          have h3s := g3.size
          refine ⟨hb.trans ((But.of_below (g2.mono hsz)).trans ((But.of_below (g3.mono (by omega))).trans (.of_below (g6.mono (by omega))))), ?_⟩
          rw [HR2.out]
          exact ⟨_, 1, by omega, rfl, g5⟩
        | ok x =>
          obtain ⟨nm, z⟩ := x
          rw [hbl] at K HR2
          simp only at K HR2
          have hb1 := hbl
          unfold blob1 at hb1
          have hsum : zs.sum + z ≤ 65536 ∧ a + (6 + nm.length) ≤ u.length := by
            split at hb1
            · cases hb1
            · split at hb1
              · cases hb1
              · split at hb1
                · cases hb1
                · cases hb1
                  refine ⟨by omega, ?_⟩
                  rw [part_length (by omega)]
                  omega
          have HS : Hid (zs.sum + z ≤ 65536) := hsum.1
          have ha2 := hsum.2
          clear HR I hbl hb1 hsum H3
          go_wp2_with (first | (go_at_call 142; refine K.mono ?_; rintro q w2 ⟨rfl, g1, vN2, vS2, g2⟩))
          go_roundw
          case rel => exact ⟨c + 1, _, ns ++ [nm], zs ++ [z], vN2, vS2, by omega, ha2, by go_num, (show (ns ++ [nm]).length = c + 1 by rw [List.length_append, H1.out]; rfl), (show (zs ++ [z]).length = (ns ++ [nm]).length by rw [List.length_append, List.length_append, H2.out]; rfl), (show (zs ++ [z]).sum ≤ 65536 by rw [List.sum_append]; have := HS.out; simpa using this), g2, hb.trans g1, HR2⟩
          case measure => simp [intOf]; omega
      · obtain rfl : c = N := by omega
        have HR2 : Hid (listP u = if a < u.length then .error a else .ok (ns, zs)) := by
          show _ = _
          rw [HR.out, Nat.sub_self, loopP]
        have c0 := RowAt.cell I.ls (i := 0) rfl
        have c2 := RowAt.cell I.ls (i := 2) rfl
        have KW := fun n => wrong_any lb _ pl a _ _ _ hpl (by omega) (wr.drewN n) (I.ls.drewN n) 0 0 (pl + a) rfl (by omega) (by omega)
        have hsz := I.size
        by_cases q2 : a < u.length
        · have HX : Hid (listP u = .error a) := by show _ = _; rw [HR2.out, if_pos q2]
          clear HR HR2 I
          go_wp2_with fail
          go_big_quiet (fail)
          go_wp2_with (first | (go_at_call 141; refine (KW _).mono ?_; rintro q w2 ⟨v, rfl, g1, g2⟩))
          go_ret
          have g3 : Below wr.heap.size wr w2 := ⟨g2.os, g2.tape, g2.output, g2.size, g2.block⟩
          refine ⟨hb.trans (.of_below (g3.mono hsz)), ?_⟩
          rw [HX.out]
          exact ⟨_, 0, by omega, rfl, g1⟩
        · have HX : Hid (listP u = .ok (ns, zs)) := by show _ = _; rw [HR2.out, if_neg q2]
          have I' := fun n => I.drewN n
          clear HR HR2 KW I
          go_wp2_with fail
          go_big_quiet (fail)
          go_wp2
          go_ret
          refine ⟨hb.drewN _, ?_⟩
          rw [HX.out]
          exact ⟨rfl, vN, vS, a, I' _⟩
end
end Go.Proofs.YtlghjjennhpjeaaGreatDoor

/-
  How the program reads a shard: the manifest (readManifest).
-/
namespace Go.Proofs.YtlghjjennhpjeaaGreatDoor
open Go.RowKit Go.Deep

theorem owns_base {w : World} {B B' e n : Nat} {v : Value} {xs : List Value} (h : w.ownsRow B' e 1 v n xs) (hB : B ≤ B') : w.ownsRow B e 1 v n xs := by
  refine ⟨h.1, ?_⟩
  rcases h.2 with x | ⟨g, cap, cur, e1, h1, h2⟩
  · exact .inl x
  · exact .inr ⟨g, cap, cur, e1, Nat.le_trans hB h1, h2⟩
/-- The lists of names and sizes are laid into the Reading. -/
theorem RI.lists {B rb : Nat} {w : World} {s : St} {t : List UInt8} {vN vS vC vT vN' vS' : Value} {ns : List (List UInt8)} {zs : List Nat} (I : RI B w rb s t vN vS vC vT) (hn : w.ownsRow B 9 1 vN' ns.length (strsV ns)) (hs : w.ownsRow B 3 1 vS' zs.length (natV zs)) (tt : Nat) :
    RI B (((w.setCell ⟨rb, 4, none⟩ vN').setCell ⟨rb, 5, none⟩ vS').setCell ⟨rb, 9, none⟩ (.int .i64 (tt : Int))) rb { s with ns := ns, zs := zs, tt := tt } t vN' vS' vC vT ∧ But w.heap.size (· = rb) w (((w.setCell ⟨rb, 4, none⟩ vN').setCell ⟨rb, 5, none⟩ vS').setCell ⟨rb, 9, none⟩ (.int .i64 (tt : Int))) := by
  have hB : But w.heap.size (· = rb) w (((w.setCell ⟨rb, 4, none⟩ vN').setCell ⟨rb, 5, none⟩ vS').setCell ⟨rb, 9, none⟩ (.int .i64 (tt : Int))) := (((But.refl w.heap.size (· = rb) w).setCell (p := ⟨rb, 4, none⟩) (.inr rfl) vN').setCell (p := ⟨rb, 5, none⟩) (.inr rfl) vS').setCell (p := ⟨rb, 9, none⟩) (.inr rfl) _
  have key : ∀ {e n : Nat} {v : Value} {xs : List Value}, w.ownsRow B e 1 v n xs → e ≠ 102 → (((w.setCell ⟨rb, 4, none⟩ vN').setCell ⟨rb, 5, none⟩ vS').setCell ⟨rb, 9, none⟩ (.int .i64 (tt : Int))).ownsRow B e 1 v n xs := fun h he => owns_later h (fun g hg' => hB.block g (h.lt g hg').2 (fun e => owns_rd h I.rd he (by rw [hg', e])))
  have hR : RdAt (((w.setCell ⟨rb, 4, none⟩ vN').setCell ⟨rb, 5, none⟩ vS').setCell ⟨rb, 9, none⟩ (.int .i64 (tt : Int))) rb (({ s with ns := ns, zs := zs, tt := tt } : St).rd vN' vS' vC vT .nilIface) := ((RowAt.set I.rd 4 vN').set 5 vS').set 9 (.int .i64 (tt : Int))
  exact ⟨⟨hR, key hn (by decide), key hs (by decide), key I.oc (by decide), key I.ot (by decide), I.ap, Nat.le_trans I.size hB.size⟩, hB⟩
/-- A new column. -/
theorem RI.newcol {B rb : Nat} {w w1 : World} {s : St} {t : List UInt8} {vN vS vC vT v1 : Value} (I : RI B w rb s t vN vS vC vT) (hb : Below w.heap.size w w1) (h1 : OwnB B w1 v1 []) (hk : v1.ownBlock = some w.heap.size) :
    RI B (w1.setCell ⟨rb, 6, none⟩ v1) rb { s with col := [] } t vN vS v1 vT ∧ But w.heap.size (· = rb) w (w1.setCell ⟨rb, 6, none⟩ v1) ∧ w1.cell? ⟨rb, 6, none⟩ = some vC ∧ w1.frozen? ⟨rb, 6, none⟩ = false := by
  have I1 := I.below hb
  have hR2 : RdAt (w1.setCell ⟨rb, 6, none⟩ v1) rb (({ s with col := [] } : St).rd vN vS v1 vT .nilIface) := RowAt.set I1.rd 6 v1
  refine ⟨⟨hR2, owns_set I1.on (owns_rd I1.on I1.rd (by decide)), owns_set I1.os (owns_rd I1.os I1.rd (by decide)), owns_set h1 (owns_rd h1 I1.rd (by decide)), owns_set I1.ot (owns_rd I1.ot I1.rd (by decide)), ?_, ?_⟩, ?_, RowAt.cell I1.rd (i := 6) rfl, RowAt.frozen I1.rd 6⟩
  · intro g hg1 hg2
    have h2 := (World.ownsRow.lt I.ot g hg2).2
    rw [hk] at hg1
    cases hg1
    omega
  · have := I1.size; simpa using this
  · exact But.setCell (S := (· = rb)) (But.of_below hb) (p := ⟨rb, 6, none⟩) (.inr rfl) v1
section
variable (B rb : Nat) (s : St) (t : List UInt8) (vN vS vC vT : Value) (hb : Bd s) (ht : t.length ≤ s.sz) (w : World) (I : RI B w rb s t vN vS vC vT) (hTab : Tab w) (hPow : Pow w) (h16 : 5 ≤ w.heap.size)
set_option maxHeartbeats 4000000 in
set_option maxRecDepth 100000 in
include hb ht I hTab hPow h16 in
theorem readManifest_any (hnx : s.nx = 1) (hk1 : 1 ≤ s.k) (hk2 : s.k ≤ 128) (hm4 : 4 ≤ s.m) : Calls Tryz.prog 120 #[.pointer (some ⟨rb, 0, none⟩)] w fun q w' => ReadOut B w rb s t vN vS vC vT (manP s t) 1 q w' := by
  obtain ⟨bc, cc, eC, hcc⟩ := I.oc.slice
  obtain ⟨bt, ct, eT, hct⟩ := I.ot.slice
  have hz := St.sz_le hb
  have KS := rsealed_any rb (s.rd vN vS vC vT .nilIface) bc s.col.length cc eC (by have := hb.m; exact Nat.le_trans this (by omega)) (by have := hb.c; exact Nat.le_trans this (by omega)) (by have := hb.ln; exact Nat.le_trans this (by omega)) hb.col (by rw [show (s.rd vN vS vC vT .nilIface).nx = s.nx from rfl]; omega) t bt ct eT (by omega) (by have := hb.pl; exact Nat.le_trans this (by omega)) w I.rd I.ot.lies hTab
  have hsz : sizeR s.nx s.c s.m s.ln s.col.length = s.sz := rfl
  simp only [St.rd, hsz] at KS
  have hSP : sealT s.sz s.pl t = sealP s t := rfl
  simp only [hSP] at KS
  unfold manP
  cases hse : sealP s t with
  | some e =>
    unfold SealPost at KS
    rw [hse] at KS
    simp only at KS ⊢
    clear hse
    go_enter Tryz.func120, Tryz.ntmps120
    go_wp2_with (first | (go_at_call 131; refine KS.mono ?_; rintro q w2 ⟨v, rfl, g1, g2⟩; obtain ⟨ty, x, rfl⟩ := g1.iface))
    go_ret
    exact ReadOut.fault I (Nat.zero_le _) g1 g2
  | none =>
    unfold SealPost at KS
    rw [hse] at KS
    simp only at KS ⊢
    have hz1 := sz1 hnx
    have hl8 : t.length = s.sz := by
      unfold sealP at hse
      split at hse
      · cases hse
      · omega
    obtain ⟨b, off, ebt, hB, hbr⟩ : ∃ b off, bt = some ⟨b, off, none⟩ ∧ Byt w b off t ∧ b ≠ rb := by
      have hot := I.ot
      have hne := owns_rd I.ot I.rd (by decide)
      unfold OwnB at hot
      obtain ⟨g, c, e, _, _, _, _, hB⟩ := owns_byt hot (by omega)
      rw [eT] at e hne
      cases e
      exact ⟨g, 0, rfl, hB, fun e => hne (by rw [e]; rfl)⟩
    subst ebt
    have em : t.length - 8 = s.m := by omega
    have hu : (part t 0 s.m).length = s.m := part_length (by omega)
    have hBu : Byt w b off (part t 0 s.m) := by have := hB.part (a := 0) (n := s.m) (by omega); exact this
    rw [em] at KS ⊢
    have hpl := hb.pl
    have hm := hb.m
    have c11 := RowAt.cell I.rd (i := 11) rfl
    simp only [St.rd] at c11
    obtain ⟨pl, epl⟩ : ∃ pl, s.pl = pl := ⟨_, rfl⟩
    obtain ⟨m, emm⟩ : ∃ m, s.m = m := ⟨_, rfl⟩
    obtain ⟨u, eu⟩ : ∃ u, part t 0 s.m = u := ⟨_, rfl⟩
    rw [eu] at hu hBu ⊢
    rw [epl] at c11 hpl ⊢
    rw [emm] at KS hu hm hm4
    clear hse hl8 hsz hSP
    have hPowD : ∀ j, Pow (w.drewN j) := fun j => hPow.but (S := fun _ => False) (B := w.heap.size) ((But.refl _ _ _).drewN j) (fun k hk => ⟨by omega, id⟩)
    have facts : ∀ j w2, w2 = w.drewN j → RI B w2 rb s t vN vS vC vT ∧ w2.cell? ⟨rb, 11, none⟩ = some (.int .i64 (pl : Int)) ∧ Pow w2 ∧ 5 ≤ w2.heap.size ∧ But w.heap.size (fun _ => False) w w2 ∧ Byt w2 b off u ∧ w.heap.size = w2.heap.size := by
      rintro j w2 rfl
      exact ⟨I.drewN j, by simpa using c11, hPowD j, h16, (But.refl _ _ _).drewN j, hBu, rfl⟩
    clear hPowD c11 hBu hPow hTab
    cases hL : listP u with
    | error p =>
      simp only
      go_enter Tryz.func120, Tryz.ntmps120
      go_upto_region 5 with (first | (go_at_call 131; refine KS.mono ?_; rintro q w2 ⟨rfl, j, hw2⟩; obtain ⟨I2, c11, hP2, h162, hb2, hB2, hs2⟩ := facts j w2 hw2; have HS2 : Hid (w.heap.size = w2.heap.size) := hs2; clear hw2 hs2 facts I hB KS))
      have hA3 := (Below.refl w2.heap.size w2).alloc (Nat.le_refl _) (.cells (lsL (.slice (some ⟨b, off, none⟩) m ct) pl 0 (.slice none 0 0) (.slice none 0 0) 0).toArray 208)
      have hL3 : LsAt (w2.alloc (.cells (lsL (.slice (some ⟨b, off, none⟩) m ct) pl 0 (.slice none 0 0) (.slice none 0 0) 0).toArray 208)) w2.heap.size (.slice (some ⟨b, off, none⟩) m ct) pl 0 (.slice none 0 0) (.slice none 0 0) 0 := RowAt.made w2 _ _
      have hs3 : w2.heap.size < (w2.alloc (.cells (lsL (.slice (some ⟨b, off, none⟩) m ct) pl 0 (.slice none 0 0) (.slice none 0 0) 0).toArray 208)).heap.size := by simp
      have hbl : b < w2.heap.size := cell_lt (hB2 0 (by omega))
      unfold lsL at hA3 hL3 hs3
      generalize hw3 : w2.alloc _ = w3 at hA3 hL3 hs3 ⊢
      clear hw3
      have hB3 : Byt w3 b off u := hB2.later (S := fun _ => False) (.of_below hA3) hbl id
      have hP3 : Pow w3 := hP2.but (S := fun _ => False) (.of_below hA3) (fun k hk => ⟨by omega, id⟩)
      rw [← hu] at hL3
      have LI : LsI w3.heap.size w3 w2.heap.size b off ct u pl 0 (.slice none 0 0) (.slice none 0 0) [] [] := ⟨hL3, World.ownsRow_nil _ _ _ _, World.ownsRow_nil _ _ _ _, fun g hg => (by cases hg), hB3, Nat.le_refl _⟩
      have KL := lread_any w3.heap.size w2.heap.size b off ct u pl hs3 (by omega) (by omega) (by omega) (by omega) (by omega) (by omega) w3 LI hP3 h162
      unfold ListPost at KL
      have hfr : ∀ w4, But w3.heap.size (· = w2.heap.size) w3 w4 → Below w2.heap.size w2 w4 := fun w4 h => hA3.trans ⟨h.os, h.tape, h.output, h.size, fun k hk => h.block k (by omega) (by omega)⟩
      have hfw : ∀ w4, Below w2.heap.size w2 w4 → Below w.heap.size w w4 := fun w4 h => (hb2.below (fun _ _ => id)).trans (h.mono (by rw [HS2.out]; exact Nat.le_refl _))
      rw [hL] at KL
      simp only at KL
      have HLZ := HS2
      clear hL LI hL3
      go_wp2_with (first | (go_at_call 133; refine KL.mono ?_; rintro q w4 ⟨g1, v, d, hd, rfl, g2⟩; obtain ⟨ty, x, rfl⟩ := g2.iface))
      go_ret
      have I4 := I2.below (hfr _ g1)
      exact ⟨.of_below (hfw _ (hfr _ g1)), ⟨_, d, hd, rfl, g2⟩, ⟨_, I4.rd⟩, fun h => by cases h⟩

    | ok x =>
      obtain ⟨ns, zs⟩ := x
      simp only
      have HSum : Hid (zs.sum ≤ 65536) := by
        show _ ≤ _
        unfold listP at hL
        split at hL
        · cases hL
        · exact loopP_sum _ _ _ _ _ (by simp) hL
      by_cases qn : s.ln = lenC s.k zs.sum
      · rw [if_pos qn]
        go_enter Tryz.func120, Tryz.ntmps120
        go_upto_region 5 with (first | (go_at_call 131; refine KS.mono ?_; rintro q w2 ⟨rfl, j, hw2⟩; obtain ⟨I2, c11, hP2, h162, hb2, hB2, hs2⟩ := facts j w2 hw2; have HS2 : Hid (w.heap.size = w2.heap.size) := hs2; clear hw2 hs2 facts I hB KS))
        have hA3 := (Below.refl w2.heap.size w2).alloc (Nat.le_refl _) (.cells (lsL (.slice (some ⟨b, off, none⟩) m ct) pl 0 (.slice none 0 0) (.slice none 0 0) 0).toArray 208)
        have hL3 : LsAt (w2.alloc (.cells (lsL (.slice (some ⟨b, off, none⟩) m ct) pl 0 (.slice none 0 0) (.slice none 0 0) 0).toArray 208)) w2.heap.size (.slice (some ⟨b, off, none⟩) m ct) pl 0 (.slice none 0 0) (.slice none 0 0) 0 := RowAt.made w2 _ _
        have hs3 : w2.heap.size < (w2.alloc (.cells (lsL (.slice (some ⟨b, off, none⟩) m ct) pl 0 (.slice none 0 0) (.slice none 0 0) 0).toArray 208)).heap.size := by simp
        have hbl : b < w2.heap.size := cell_lt (hB2 0 (by omega))
        unfold lsL at hA3 hL3 hs3
        generalize hw3 : w2.alloc _ = w3 at hA3 hL3 hs3 ⊢
        clear hw3
        have hB3 : Byt w3 b off u := hB2.later (S := fun _ => False) (.of_below hA3) hbl id
        have hP3 : Pow w3 := hP2.but (S := fun _ => False) (.of_below hA3) (fun k hk => ⟨by omega, id⟩)
        rw [← hu] at hL3
        have LI : LsI w3.heap.size w3 w2.heap.size b off ct u pl 0 (.slice none 0 0) (.slice none 0 0) [] [] := ⟨hL3, World.ownsRow_nil _ _ _ _, World.ownsRow_nil _ _ _ _, fun g hg => (by cases hg), hB3, Nat.le_refl _⟩
        have KL := lread_any w3.heap.size w2.heap.size b off ct u pl hs3 (by omega) (by omega) (by omega) (by omega) (by omega) (by omega) w3 LI hP3 h162
        unfold ListPost at KL
        have hfr : ∀ w4, But w3.heap.size (· = w2.heap.size) w3 w4 → Below w2.heap.size w2 w4 := fun w4 h => hA3.trans ⟨h.os, h.tape, h.output, h.size, fun k hk => h.block k (by omega) (by omega)⟩
        have hfw : ∀ w4, Below w2.heap.size w2 w4 → Below w.heap.size w w4 := fun w4 h => (hb2.below (fun _ _ => id)).trans (h.mono (by rw [HS2.out]; exact Nat.le_refl _))
        rw [hL] at KL
        simp only at KL
        clear hL LI hL3
        go_upto_region 8 with (first | (go_at_call 133; refine KL.mono ?_; rintro q w4 ⟨g1, rfl, vN2, vS2, a2, g2⟩))
        have I4 := I2.below (hfr _ g1)
        have hB4 := hfw _ (hfr _ g1)
        have d3 := RowAt.cell g2.ls (i := 3) rfl
        have d4 := RowAt.cell g2.ls (i := 4) rfl
        have d5 := RowAt.cell g2.ls (i := 5) rfl
        have c4 := RowAt.cell I4.rd (i := 4) rfl
        have c5 := RowAt.cell I4.rd (i := 5) rfl
        have c9 := RowAt.cell I4.rd (i := 9) rfl
        have f0 := RowAt.frozen I4.rd
        obtain ⟨bn, cn, en⟩ := owns_slice g2.on
        obtain ⟨bz, cz, ez⟩ := owns_slice g2.os
        subst en ez
        go_upto_region 9 with (fail)
        obtain ⟨I5, hB5⟩ := I4.lists (owns_base g2.on (by have := I2.size; omega)) (owns_base g2.os (by have := I2.size; omega)) zs.sum
        have hB6 : But w.heap.size (Mine rb vC vT) w _ := (But.of_below hB4).trans (hB5.mono hB4.size (fun _ x => .inl x))
        clear d3 d4 d5 c4 c5 c9 f0 I4 hB5
        generalize (((w4.setCell ⟨rb, 4, none⟩ (.slice bn ns.length cn)).setCell ⟨rb, 5, none⟩ (.slice bz zs.length cz)).setCell ⟨rb, 9, none⟩ (.int .i64 (zs.sum : Nat))) = w5 at I5 hB6 ⊢
        have c0 := RowAt.cell I5.rd (i := 0) rfl
        have c8 := RowAt.cell I5.rd (i := 8) rfl
        have c9 := RowAt.cell I5.rd (i := 9) rfl
        simp only [St.rd] at c0 c8 c9
        have hln := hb.ln
        have KC := fun j => clength_any (s.k : Int) (zs.sum : Int) s.k zs.sum rfl rfl hk1 (by omega) HSum.out (w5.drewN j)
        obtain ⟨Z, eZ⟩ : ∃ Z, zs.sum = Z := ⟨_, rfl⟩
        obtain ⟨LN, eLN⟩ : ∃ LN, s.ln = LN := ⟨_, rfl⟩
        rw [eZ] at c9 KC
        rw [eLN] at c8 hln
        obtain ⟨LC, eLC⟩ : ∃ LC, lenC s.k Z = LC := ⟨_, rfl⟩
        simp only [eLC] at KC
        have HZ : Hid (zs.sum = Z) := eZ
        obtain rfl : LN = LC := by rw [← eLN, qn, eZ, eLC]
        clear eZ eLC qn
        go_wp2_with fail
        go_big_quiet (first | (go_at_call 116; exact (KC _).mono (fun _ _ h => ⟨h.1, _, h.2⟩)))
        obtain ⟨i0, hi0, hz0, hzz1, hzz2⟩ := info_parts infoB8
        obtain ⟨w6, hmk, ho6, hg6⟩ := run_make_own (P := Tryz.prog) (w5.drewN nq) B 24 5 i0 (.int .u8 0) 1 Tryz.underlying24 hi0 hz0 hzz1 .i64 .i64 LN (by rw [hzz2]; omega) (by unfold maxLen; omega) I5.size
        have hb6 : Below w5.heap.size w5 w6 := below_of_drewN ((Below.refl (w5.drewN nq).heap.size (w5.drewN nq)).grown hg6 (Nat.le_refl _) (fun k hk => by cases hk))
        obtain ⟨I6, hB7, x6, f6⟩ := I5.newcol hb6 (OwnB.of ho6) rfl
        go_wp2
        subst emm eLN epl
        rw [hnx] at I6
        rw [← eC, ← eT]
        go_ret
        refine ⟨hB6.trans (hB7.mono hB6.size (fun _ x => .inl x)), rfl, _, _, _, I6, .inr ⟨_, rfl, hB6.size⟩⟩
      · rw [if_neg qn]
        go_enter Tryz.func120, Tryz.ntmps120
        go_upto_region 5 with (first | (go_at_call 131; refine KS.mono ?_; rintro q w2 ⟨rfl, j, hw2⟩; obtain ⟨I2, c11, hP2, h162, hb2, hB2, hs2⟩ := facts j w2 hw2; have HS2 : Hid (w.heap.size = w2.heap.size) := hs2; clear hw2 hs2 facts I hB KS))
        have hA3 := (Below.refl w2.heap.size w2).alloc (Nat.le_refl _) (.cells (lsL (.slice (some ⟨b, off, none⟩) m ct) pl 0 (.slice none 0 0) (.slice none 0 0) 0).toArray 208)
        have hL3 : LsAt (w2.alloc (.cells (lsL (.slice (some ⟨b, off, none⟩) m ct) pl 0 (.slice none 0 0) (.slice none 0 0) 0).toArray 208)) w2.heap.size (.slice (some ⟨b, off, none⟩) m ct) pl 0 (.slice none 0 0) (.slice none 0 0) 0 := RowAt.made w2 _ _
        have hs3 : w2.heap.size < (w2.alloc (.cells (lsL (.slice (some ⟨b, off, none⟩) m ct) pl 0 (.slice none 0 0) (.slice none 0 0) 0).toArray 208)).heap.size := by simp
        have hbl : b < w2.heap.size := cell_lt (hB2 0 (by omega))
        unfold lsL at hA3 hL3 hs3
        generalize hw3 : w2.alloc _ = w3 at hA3 hL3 hs3 ⊢
        clear hw3
        have hB3 : Byt w3 b off u := hB2.later (S := fun _ => False) (.of_below hA3) hbl id
        have hP3 : Pow w3 := hP2.but (S := fun _ => False) (.of_below hA3) (fun k hk => ⟨by omega, id⟩)
        rw [← hu] at hL3
        have LI : LsI w3.heap.size w3 w2.heap.size b off ct u pl 0 (.slice none 0 0) (.slice none 0 0) [] [] := ⟨hL3, World.ownsRow_nil _ _ _ _, World.ownsRow_nil _ _ _ _, fun g hg => (by cases hg), hB3, Nat.le_refl _⟩
        have KL := lread_any w3.heap.size w2.heap.size b off ct u pl hs3 (by omega) (by omega) (by omega) (by omega) (by omega) (by omega) w3 LI hP3 h162
        unfold ListPost at KL
        have hfr : ∀ w4, But w3.heap.size (· = w2.heap.size) w3 w4 → Below w2.heap.size w2 w4 := fun w4 h => hA3.trans ⟨h.os, h.tape, h.output, h.size, fun k hk => h.block k (by omega) (by omega)⟩
        have hfw : ∀ w4, Below w2.heap.size w2 w4 → Below w.heap.size w w4 := fun w4 h => (hb2.below (fun _ _ => id)).trans (h.mono (by rw [HS2.out]; exact Nat.le_refl _))
        rw [hL] at KL
        simp only at KL
        clear hL LI hL3
        go_upto_region 8 with (first | (go_at_call 133; refine KL.mono ?_; rintro q w4 ⟨g1, rfl, vN2, vS2, a2, g2⟩))
        have I4 := I2.below (hfr _ g1)
        have hB4 := hfw _ (hfr _ g1)
        have d3 := RowAt.cell g2.ls (i := 3) rfl
        have d4 := RowAt.cell g2.ls (i := 4) rfl
        have d5 := RowAt.cell g2.ls (i := 5) rfl
        have c4 := RowAt.cell I4.rd (i := 4) rfl
        have c5 := RowAt.cell I4.rd (i := 5) rfl
        have c9 := RowAt.cell I4.rd (i := 9) rfl
        have f0 := RowAt.frozen I4.rd
        obtain ⟨bn, cn, en⟩ := owns_slice g2.on
        obtain ⟨bz, cz, ez⟩ := owns_slice g2.os
        subst en ez
        go_upto_region 9 with (fail)
        obtain ⟨I5, hB5⟩ := I4.lists (owns_base g2.on (by have := I2.size; omega)) (owns_base g2.os (by have := I2.size; omega)) zs.sum
        have hB6 : But w.heap.size (Mine rb vC vT) w _ := (But.of_below hB4).trans (hB5.mono hB4.size (fun _ x => .inl x))
        clear d3 d4 d5 c4 c5 c9 f0 I4 hB5
        generalize (((w4.setCell ⟨rb, 4, none⟩ (.slice bn ns.length cn)).setCell ⟨rb, 5, none⟩ (.slice bz zs.length cz)).setCell ⟨rb, 9, none⟩ (.int .i64 (zs.sum : Nat))) = w5 at I5 hB6 ⊢
        have c0 := RowAt.cell I5.rd (i := 0) rfl
        have c8 := RowAt.cell I5.rd (i := 8) rfl
        have c9 := RowAt.cell I5.rd (i := 9) rfl
        simp only [St.rd] at c0 c8 c9
        have hln := hb.ln
        have KC := fun j => clength_any (s.k : Int) (zs.sum : Int) s.k zs.sum rfl rfl hk1 (by omega) HSum.out (w5.drewN j)
        obtain ⟨Z, eZ⟩ : ∃ Z, zs.sum = Z := ⟨_, rfl⟩
        obtain ⟨LN, eLN⟩ : ∃ LN, s.ln = LN := ⟨_, rfl⟩
        rw [eZ] at c9 KC
        rw [eLN] at c8 hln
        obtain ⟨LC, eLC⟩ : ∃ LC, lenC s.k Z = LC := ⟨_, rfl⟩
        simp only [eLC] at KC
        have HZ : Hid (zs.sum = Z) := eZ
        have hne : ((LN : Int) == (LC : Int)) = false := by
          have : LN ≠ LC := fun e => qn (by rw [eLN, e, ← eLC, ← eZ])
          simp; omega
        have hne2 : ((LN : Int) != (LC : Int)) = true := by
          have : LN ≠ LC := fun e => qn (by rw [eLN, e, ← eLC, ← eZ])
          simp; omega
        clear eZ eLC qn
        go_wp2_with fail
        go_big_quiet (first | (go_at_call 116; exact (KC _).mono (fun _ _ h => ⟨h.1, _, h.2⟩)))
        go_wp2_with (first | (go_at_call 49; refine (at_any _ _ 7 18 (by rfl) (by rfl) _).mono ?_; rintro q w7 ⟨v, rfl, h1, h2⟩))
        go_ret
        have h3 := below_of_drewN h2
        exact ⟨hB6.trans (.of_below (h3.mono hB6.size)), ⟨_, 0, Nat.zero_le _, rfl, h1⟩, ⟨_, (I5.below h3).rd⟩, fun h => by cases h⟩
end
end Go.Proofs.YtlghjjennhpjeaaGreatDoor

/-
  How the program reads a shard: a piece (read).
-/
namespace Go.Proofs.YtlghjjennhpjeaaGreatDoor
open Go.RowKit Go.Deep

/-- What a piece that is read asks of what has been read. -/
structure Fit (s : St) : Prop where
  bd : Bd s
  nx : s.nx ≤ 3
  k : s.nx ≠ 0 → 1 ≤ s.k ∧ s.k ≤ 128 ∧ s.i ≤ 128 ∧ 4 ≤ s.m
  tt : 2 ≤ s.nx → s.tt ≤ 65536
theorem chain_wrap {w w' w'' : World} {S : Nat → Prop} (h : But w.heap.size S w w') (hb : Below w'.heap.size w' w'') : But w.heap.size S w w'' := h.trans (.of_below (hb.mono h.size))
section
variable (B rb : Nat) (s : St) (t : List UInt8) (vN vS vC vT : Value) (hF : Fit s) (ht : t.length ≤ s.sz) (w : World) (I : RI B w rb s t vN vS vC vT) (hTab : Tab w) (hPow : Pow w) (h16 : 5 ≤ w.heap.size)
set_option maxHeartbeats 4000000 in
set_option maxRecDepth 100000 in
include hF ht I hTab hPow h16 in
theorem rread_any : Calls Tryz.prog 89 #[.pointer (some ⟨rb, 0, none⟩)] w fun q w' => ReadOut B w rb s t vN vS vC vT (readP s t) 2 q w' := by
  have hb := hF.bd
  have c10 := RowAt.cell I.rd (i := 10) rfl
  simp only [St.rd] at c10
  have hnx := hF.nx
  have hfk := hF.k
  have hft := hF.tt
  have h4 : s.nx = 0 ∨ s.nx = 1 ∨ s.nx = 2 ∨ s.nx = 3 := by omega
  rcases h4 with e0 | e0 | e0 | e0
  · have K := readHead_any B rb s t vN vS vC vT hb ht w I hTab e0
    have HP : Hid (readP s t = headP s t) := by show _ = _; unfold readP; rw [if_pos e0]
    rw [HP.out]
    rw [e0] at c10
    clear hfk hft hnx e0 HP
    cases hR : headP s t with
    | error e =>
      unfold ReadOut at K
      rw [hR] at K
      simp only at K
      clear hR
      go_enter Tryz.func89, Tryz.ntmps89
      go_wp2_with (first | (go_at_call 119; refine K.mono ?_; rintro q w2 ⟨g1, ⟨v, d, hd, rfl, g2⟩, ⟨r', g3⟩, g4⟩) | (go_at_call 24; refine (within_any _ d _ _ _ _ (by exact g2)).mono ?_; rintro q w3 ⟨v3, rfl, g5, g6⟩))
      go_ret
      exact ⟨chain_wrap g1 g6, ⟨_, d + 1, by omega, rfl, g5⟩, ⟨_, RowAt.later g3 (S := fun _ => False) (.of_below g6) (RowAt.lt g3) id⟩, fun h => (g4 h).below g6⟩
    | ok s' =>
      unfold ReadOut at K
      rw [hR] at K
      simp only at K
      clear hR
      go_enter Tryz.func89, Tryz.ntmps89
      go_wp2_with (first | (go_at_call 119; refine K.mono ?_; rintro q w2 ⟨g1, rfl, g2⟩) | (go_at_call 24; refine (within_nil _ _).mono ?_; rintro q w3 ⟨rfl, hw3⟩; obtain rfl := hw3.symm))
      go_ret
      exact ⟨g1, rfl, g2⟩
  · have K := readManifest_any B rb s t vN vS vC vT hb ht w I hTab hPow h16 e0 (hfk (by omega)).1 (hfk (by omega)).2.1 (hfk (by omega)).2.2.2
    have HP : Hid (readP s t = manP s t) := by show _ = _; unfold readP; rw [if_neg (by omega), if_pos e0]
    rw [HP.out]
    rw [e0] at c10
    clear hfk hft hnx e0 HP
    cases hR : manP s t with
    | error e =>
      unfold ReadOut at K
      rw [hR] at K
      simp only at K
      clear hR
      go_enter Tryz.func89, Tryz.ntmps89
      go_wp2_with (first | (go_at_call 120; refine K.mono ?_; rintro q w2 ⟨g1, ⟨v, d, hd, rfl, g2⟩, ⟨r', g3⟩, g4⟩) | (go_at_call 24; refine (within_any _ d _ _ _ _ (by exact g2)).mono ?_; rintro q w3 ⟨v3, rfl, g5, g6⟩))
      go_ret
      exact ⟨chain_wrap g1 g6, ⟨_, d + 1, by omega, rfl, g5⟩, ⟨_, RowAt.later g3 (S := fun _ => False) (.of_below g6) (RowAt.lt g3) id⟩, fun h => (g4 h).below g6⟩
    | ok s' =>
      unfold ReadOut at K
      rw [hR] at K
      simp only at K
      clear hR
      go_enter Tryz.func89, Tryz.ntmps89
      go_wp2_with (first | (go_at_call 120; refine K.mono ?_; rintro q w2 ⟨g1, rfl, g2⟩) | (go_at_call 24; refine (within_nil _ _).mono ?_; rintro q w3 ⟨rfl, hw3⟩; obtain rfl := hw3.symm))
      go_ret
      exact ⟨g1, rfl, g2⟩
  · have K := readFrame_any B rb s t vN vS vC vT hb ht w I hTab e0 (hfk (by omega)).1 (hfk (by omega)).2.1 (hfk (by omega)).2.2.1 (hft (by omega))
    have HP : Hid (readP s t = frameP s t) := by show _ = _; unfold readP; rw [if_neg (by omega), if_neg (by omega), if_pos e0]
    rw [HP.out]
    rw [e0] at c10
    clear hfk hft hnx e0 HP
    cases hR : frameP s t with
    | error e =>
      unfold ReadOut at K
      rw [hR] at K
      simp only at K
      clear hR
      go_enter Tryz.func89, Tryz.ntmps89
      go_wp2_with (first | (go_at_call 121; refine K.mono ?_; rintro q w2 ⟨g1, ⟨v, d, hd, rfl, g2⟩, ⟨r', g3⟩, g4⟩) | (go_at_call 24; refine (within_any _ d _ _ _ _ (by exact g2)).mono ?_; rintro q w3 ⟨v3, rfl, g5, g6⟩))
      go_ret
      exact ⟨chain_wrap g1 g6, ⟨_, d + 1, by omega, rfl, g5⟩, ⟨_, RowAt.later g3 (S := fun _ => False) (.of_below g6) (RowAt.lt g3) id⟩, fun h => (g4 h).below g6⟩
    | ok s' =>
      unfold ReadOut at K
      rw [hR] at K
      simp only at K
      clear hR
      go_enter Tryz.func89, Tryz.ntmps89
      go_wp2_with (first | (go_at_call 121; refine K.mono ?_; rintro q w2 ⟨g1, rfl, g2⟩) | (go_at_call 24; refine (within_nil _ _).mono ?_; rintro q w3 ⟨rfl, hw3⟩; obtain rfl := hw3.symm))
      go_ret
      exact ⟨g1, rfl, g2⟩
  · have K := readTail_any B rb s t vN vS vC vT hb ht w I e0
    have HP : Hid (readP s t = tailP s t) := by show _ = _; unfold readP; rw [if_neg (by omega), if_neg (by omega), if_neg (by omega)]
    rw [HP.out]
    rw [e0] at c10
    clear hfk hft hnx e0 HP
    cases hR : tailP s t with
    | error e =>
      unfold ReadOut at K
      rw [hR] at K
      simp only at K
      clear hR
      go_enter Tryz.func89, Tryz.ntmps89
      go_wp2_with (first | (go_at_call 122; refine K.mono ?_; rintro q w2 ⟨g1, ⟨v, d, hd, rfl, g2⟩, ⟨r', g3⟩, g4⟩) | (go_at_call 24; refine (within_any _ d _ _ _ _ (by exact g2)).mono ?_; rintro q w3 ⟨v3, rfl, g5, g6⟩))
      go_ret
      exact ⟨chain_wrap g1 g6, ⟨_, d + 1, by omega, rfl, g5⟩, ⟨_, RowAt.later g3 (S := fun _ => False) (.of_below g6) (RowAt.lt g3) id⟩, fun h => (g4 h).below g6⟩
    | ok s' =>
      unfold ReadOut at K
      rw [hR] at K
      simp only at K
      clear hR
      go_enter Tryz.func89, Tryz.ntmps89
      go_wp2_with (first | (go_at_call 122; refine K.mono ?_; rintro q w2 ⟨g1, rfl, g2⟩) | (go_at_call 24; refine (within_nil _ _).mono ?_; rintro q w3 ⟨rfl, hw3⟩; obtain rfl := hw3.symm))
      go_ret
      exact ⟨g1, rfl, g2⟩
end
end Go.Proofs.YtlghjjennhpjeaaGreatDoor

/-
  How the program reads a shard, in plain words: what has come up to now; that it comes to an end.
-/
namespace Go.Proofs.YtlghjjennhpjeaaGreatDoor

theorem sealP_short {s : St} {t : List UInt8} {e : Nat × Nat} (h : sealP s t = some e) (h4 : e.1 = 4) : t.length < s.sz := by
  unfold sealP at h
  split at h
  · assumption
  · split at h
    · cases h
    · cases h; cases h4
theorem read_short {s : St} {t : List UInt8} {e : Nat × Nat} (h : readP s t = .error e) (h4 : e.1 = 4) : t.length < s.sz := by
  unfold readP at h
  split at h
  · unfold headP at h
    split at h
    · cases h; cases h4
    · split at h
      · rename_i hs
        cases h
        exact sealP_short hs h4
      · split at h
        · cases h; cases h4
        · cases h
  · split at h
    · unfold manP at h
      split at h
      · rename_i hs
        cases h
        exact sealP_short hs h4
      · split at h
        · cases h; cases h4
        · split at h
          · cases h
          · cases h; cases h4
    · split at h
      · unfold frameP at h
        split at h
        · rename_i hs
          cases h
          exact sealP_short hs h4
        · split at h
          · cases h; cases h4
          · cases h
      · unfold tailP at h
        split at h
        · cases h; cases h4
        · split at h
          · assumption
          · cases h
/-- Where the next piece may begin. -/
def PlB (s : St) : Prop := (s.nx = 0 → s.pl = 0) ∧ (s.nx = 1 → s.pl = 32) ∧ (2 ≤ s.nx → s.pl ≤ 300040 + 9 * s.col.length + (if s.nx = 4 then 4 else 0))
theorem read_nx {s s' : St} {t : List UInt8} (h : readP s t = .ok s') : s'.nx = s.nx ∧ s'.pl = s.pl ∧ (s.nx = 1 → s'.m = s.m ∧ s'.ln = s.ln) ∧ (s.nx = 2 → s'.ln = s.ln ∧ s'.col.length = s.col.length + (part t 0 (t.length - 8)).length) ∧ (s.nx = 3 → s' = s) := by
  unfold readP at h
  split at h
  · rename_i h0
    unfold headP at h
    split at h
    · cases h
    · split at h
      · cases h
      · split at h
        · cases h
        · cases h
          exact ⟨rfl, rfl, by omega, by omega, by omega⟩
  · split at h
    · unfold manP at h
      split at h
      · cases h
      · split at h
        · cases h
        · split at h
          · cases h
            exact ⟨rfl, rfl, fun _ => ⟨rfl, rfl⟩, by omega, by omega⟩
          · cases h
    · split at h
      · unfold frameP at h
        split at h
        · cases h
        · split at h
          · cases h
          · cases h
            exact ⟨rfl, rfl, by omega, fun _ => ⟨rfl, by simp⟩, by omega⟩
      · unfold tailP at h
        split at h
        · cases h
        · split at h
          · cases h
          · cases h
            exact ⟨rfl, rfl, by omega, by omega, fun _ => rfl⟩
/-- What is still to come. -/
def meas (nx ln cl : Nat) : Nat := if nx = 0 then 200001 else if nx = 1 then 200000 else if nx = 2 then 2 + (ln - cl) else if nx = 3 then 1 else 0
theorem Good.nx2 {s : St} {Z : List UInt8} (hG : Good s Z) (h : s.nx = 2) : 1 ≤ s.c ∧ s.col.length < s.ln ∧ s.ln ≤ 65536 := by
  cases hG with
  | frame h0 hm h1 f hf he => exact ⟨hm.head.facts.2.2.2.2.2.1, h1, hm.head.facts.2.2.2.2.2.2.2.2.2⟩
  | head h0 => omega
  | man h0 => omega
  | tail h0 => omega
  | done h0 => omega
theorem move_nx (s : St) (t : List UInt8) : (moveP s t).nx = nextP s ∧ (moveP s t).ln = s.ln ∧ (moveP s t).col = s.col ∧ (moveP s t).pl = s.pl + t.length := ⟨rfl, rfl, rfl, rfl⟩
theorem meas_lt {s s' : St} {Z t : List UInt8} (hG : Good s Z) (h4 : s.nx ≤ 3) (h : readP s t = .ok s') (ht : t.length = s.sz) (hG' : Good (moveP s' t) Z) : meas (moveP s' t).nx (moveP s' t).ln (moveP s' t).col.length < meas s.nx s.ln s.col.length := by
  obtain ⟨e1, e2, e3, e5, e6⟩ := read_nx h
  obtain ⟨m1, m2, m3, m4⟩ := move_nx s' t
  rw [m1, m2, m3]
  have hb := hG'.bounds
  unfold nextP
  rw [e1]
  have h4' : s.nx = 0 ∨ s.nx = 1 ∨ s.nx = 2 ∨ s.nx = 3 := by omega
  rcases h4' with q | q | q | q
  · rw [q]; simp [meas]
  · rw [q]
    by_cases qc : s'.col.length < s'.ln
    · have hl := hb.2.1
      rw [m1, m2] at hl
      unfold nextP at hl
      rw [e1, q] at hl
      simp [qc] at hl
      simp [meas, qc]; omega
    · simp [meas, qc]
  · rw [q]
    obtain ⟨h1, h2, h3⟩ := hG.nx2 q
    obtain ⟨h5, h6⟩ := e5 q
    have h7 : 1 ≤ (part t 0 (t.length - 8)).length := by
      rw [part_length (by omega), ht, sz2 q]
      omega
    by_cases qc : s'.col.length < s'.ln
    · simp [meas, qc]; omega
    · simp [meas, qc]; omega
  · rw [q]; simp [meas]
theorem PlB.next {s s' : St} {t : List UInt8} (hp : PlB s) (hm : s.m ≤ 300000) (h4 : s.nx ≤ 3) (h : readP s t = .ok s') (ht : t.length = s.sz) (h2 : s.nx = 2 → 1 ≤ min s.c (s.ln - s.col.length)) : PlB (moveP s' t) := by
  obtain ⟨e1, e2, e3, e5, e6⟩ := read_nx h
  obtain ⟨m1, m2, m3, m4⟩ := move_nx s' t
  obtain ⟨p0, p1, p2⟩ := hp
  unfold PlB
  rw [m1, m3, m4, e2]
  unfold nextP
  rw [e1]
  have h4' : s.nx = 0 ∨ s.nx = 1 ∨ s.nx = 2 ∨ s.nx = 3 := by omega
  rcases h4' with q | q | q | q
  · rw [if_pos q]
    have := p0 q
    have := sz0 q
    exact ⟨by omega, fun _ => by omega, by omega⟩
  · rw [if_neg (by omega), if_neg (by omega)]
    have := p1 q
    have := sz1 q
    refine ⟨by split <;> omega, by split <;> omega, fun _ => ?_⟩
    omega
  · rw [if_neg (by omega), if_neg (by omega)]
    have hp2 := p2 (by omega)
    rw [if_neg (by omega)] at hp2
    obtain ⟨h5, h6⟩ := e5 q
    have hz := sz2 q
    have h7 : (part t 0 (t.length - 8)).length = t.length - 8 := part_length (by omega)
    have h8 := h2 q
    refine ⟨by split <;> omega, by split <;> omega, fun _ => ?_⟩
    omega
  · rw [if_neg (by omega), if_pos q]
    have hp2 := p2 (by omega)
    rw [if_neg (by omega)] at hp2
    have hz := sz3 q
    have := e6 q
    subst this
    exact ⟨by omega, by omega, fun _ => by simp; omega⟩
end Go.Proofs.YtlghjjennhpjeaaGreatDoor

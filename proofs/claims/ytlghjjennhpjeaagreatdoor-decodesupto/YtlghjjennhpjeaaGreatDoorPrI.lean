/-
  How the program reads a shard: the manifest: one blob that is right (readBlob).
-/
import Derived.Test.YtlghjjennhpjeaaGreatDoorPrH
import Derived.Deep.Cut
import Derived.Deep.CutRange
namespace Go.Proofs.YtlghjjennhpjeaaGreatDoor
open Go.RowKit Go.Deep
theorem drewN_add (w : World) (j n : Nat) : (w.drewN j).drewN n = w.drewN (j + n) := by simp [World.drewN, Nat.add_assoc]
theorem LsI.drewN {B : Nat} {w : World} {lb b off ct : Nat} {u : List UInt8} {pl a : Nat} {vN vS : Value} {ns : List (List UInt8)} {zs : List Nat} (I : LsI B w lb b off ct u pl a vN vS ns zs) (j : Nat) : LsI B (w.drewN j) lb b off ct u pl a vN vS ns zs :=
  ⟨I.ls, I.on, I.os, I.ap, I.byt, I.size⟩
theorem LsAt.setN {w : World} {lb : Nat} {v : Value} {pl a : Nat} {vN vS : Value} {tt : Nat} (h : LsAt w lb v pl a vN vS tt) (x : Value) : LsAt (w.setCell ⟨lb, 3, none⟩ x) lb v pl a x vS tt := RowAt.set h 3 x
theorem LsAt.setS {w : World} {lb : Nat} {v : Value} {pl a : Nat} {vN vS : Value} {tt : Nat} (h : LsAt w lb v pl a vN vS tt) (x : Value) : LsAt (w.setCell ⟨lb, 4, none⟩ x) lb v pl a vN x tt := RowAt.set h 4 x
theorem LsAt.setT {w : World} {lb : Nat} {v : Value} {pl a : Nat} {vN vS : Value} {tt : Nat} (h : LsAt w lb v pl a vN vS tt) (x : Nat) : LsAt (w.setCell ⟨lb, 5, none⟩ (.int .i64 (x : Int))) lb v pl a vN vS x := RowAt.set h 5 _
theorem LsAt.setA {w : World} {lb : Nat} {v : Value} {pl a : Nat} {vN vS : Value} {tt : Nat} (h : LsAt w lb v pl a vN vS tt) (x : Nat) : LsAt (w.setCell ⟨lb, 2, none⟩ (.int .i64 (x : Int))) lb v pl x vN vS tt := RowAt.set h 2 _
/-- The lists grow, whatever the total says. -/
structure LsJ (B : Nat) (w0 w : World) (lb b off ct : Nat) (u : List UInt8) (pl a : Nat) (vN vS : Value) (ns : List (List UInt8)) (zs : List Nat) (tt : Nat) : Prop where
  ls : LsAt w lb (.slice (some ⟨b, off, none⟩) u.length ct) pl a vN vS tt
  on : w.ownsRow B 9 1 vN ns.length (strsV ns)
  os : w.ownsRow B 3 1 vS zs.length (natV zs)
  ap : Apart2 vN vS
  byt : Byt w b off u
  size : B ≤ w.heap.size
  but : But B (· = lb) w0 w
section
variable {B : Nat} {w0 w w1 : World} {lb b off ct : Nat} {u : List UInt8} {pl a : Nat} {vN vS v1 : Value} {ns : List (List UInt8)} {zs : List Nat} {tt : Nat} {o : Obj}
theorem LsJ.addN {nm : List UInt8} (I : LsJ B w0 w lb b off ct u pl a vN vS ns zs tt) (hlB : lb < B) (hbB : b < B) (hlb : lb ≠ b) (h1 : w1.ownsRow B 9 1 v1 (ns.length + 1) (strsV ns ++ [.string ⟨nm.toArray⟩])) (hg : (w.alloc o).grownBy w1 vN.ownBlock) (hk : v1.ownBlock = vN.ownBlock ∨ v1.ownBlock = some (w.alloc o).heap.size) :
    LsJ B w0 (w1.setCell ⟨lb, 3, none⟩ v1) lb b off ct u pl a v1 vS (ns ++ [nm]) zs tt ∧ w1.cell? ⟨lb, 3, none⟩ = some vN ∧ w1.frozen? ⟨lb, 3, none⟩ = false := by
  have hb1 : But B (fun _ => False) w w1 := ((But.refl _ _ _).alloc I.size o).grown hg (by simp; have := I.size; omega) (fun g hg => (I.on.lt g hg).1)
  have hb2 : But B (· = lb) w (w1.setCell ⟨lb, 3, none⟩ v1) := But.setCell (S := (· = lb)) (p := ⟨lb, 3, none⟩) (hb1.mono (Nat.le_refl _) (fun _ x => x.elim)) (.inr rfl) v1
  have hS : w1.ownsRow B 3 1 vS zs.length (natV zs) := owns_later I.os (fun g hg' => by
    have h2 := I.os.lt g hg'
    rw [hg.block g (by simp; omega) (fun e => I.ap g e.symm hg')]
    exact Below.heap_alloc _ _ _ h2.2)
  have hL : LsAt w1 lb (.slice (some ⟨b, off, none⟩) u.length ct) pl a vN vS tt := RowAt.later I.ls hb1 hlB id
  refine ⟨⟨hL.setN v1, ?_, ownsRow_setCell_below hS hlB v1, ?_, I.byt.later hb2 hbB (fun e => hlb e.symm), ?_, I.but.trans hb2⟩, RowAt.cell hL rfl, RowAt.frozen hL 3⟩
  · rw [strV_snoc] at h1
    rw [List.length_append]
    exact ownsRow_setCell_below h1 hlB v1
  · intro g hg1 hg2
    rcases hk with e | e
    · exact I.ap g (e ▸ hg1) hg2
    · have h2 := (I.os.lt g hg2).2
      rw [e] at hg1
      cases hg1
      simp at h2
      omega
  · have := hb2.size; have := I.size; omega
theorem LsJ.addS {z : Nat} (I : LsJ B w0 w lb b off ct u pl a vN vS ns zs tt) (hlB : lb < B) (hbB : b < B) (hlb : lb ≠ b) (h1 : w1.ownsRow B 3 1 v1 (zs.length + 1) (natV zs ++ [.int .i64 (z : Int)])) (hg : (w.alloc o).grownBy w1 vS.ownBlock) (hk : v1.ownBlock = vS.ownBlock ∨ v1.ownBlock = some (w.alloc o).heap.size) :
    LsJ B w0 (w1.setCell ⟨lb, 4, none⟩ v1) lb b off ct u pl a vN v1 ns (zs ++ [z]) tt ∧ w1.cell? ⟨lb, 4, none⟩ = some vS ∧ w1.frozen? ⟨lb, 4, none⟩ = false := by
  have hb1 : But B (fun _ => False) w w1 := ((But.refl _ _ _).alloc I.size o).grown hg (by simp; have := I.size; omega) (fun g hg => (I.os.lt g hg).1)
  have hb2 : But B (· = lb) w (w1.setCell ⟨lb, 4, none⟩ v1) := But.setCell (S := (· = lb)) (p := ⟨lb, 4, none⟩) (hb1.mono (Nat.le_refl _) (fun _ x => x.elim)) (.inr rfl) v1
  have hS : w1.ownsRow B 9 1 vN ns.length (strsV ns) := owns_later I.on (fun g hg' => by
    have h2 := I.on.lt g hg'
    rw [hg.block g (by simp; omega) (fun e => I.ap g hg' e.symm)]
    exact Below.heap_alloc _ _ _ h2.2)
  have hL : LsAt w1 lb (.slice (some ⟨b, off, none⟩) u.length ct) pl a vN vS tt := RowAt.later I.ls hb1 hlB id
  refine ⟨⟨hL.setS v1, ownsRow_setCell_below hS hlB v1, ?_, ?_, I.byt.later hb2 hbB (fun e => hlb e.symm), ?_, I.but.trans hb2⟩, RowAt.cell hL rfl, RowAt.frozen hL 4⟩
  · rw [natV_snoc] at h1
    rw [List.length_append]
    exact ownsRow_setCell_below h1 hlB v1
  · intro g hg1 hg2
    rcases hk with e | e
    · exact I.ap g hg1 (e ▸ hg2)
    · have h2 := (I.on.lt g hg1).2
      rw [e] at hg2
      cases hg2
      simp at h2
      omega
  · have := hb2.size; have := I.size; omega
theorem LsJ.setT (I : LsJ B w0 w lb b off ct u pl a vN vS ns zs tt) (hlB : lb < B) (hbB : b < B) (hlb : lb ≠ b) (x : Nat) : LsJ B w0 (w.setCell ⟨lb, 5, none⟩ (.int .i64 (x : Int))) lb b off ct u pl a vN vS ns zs x := by
  have hb2 : But B (· = lb) w (w.setCell ⟨lb, 5, none⟩ (.int .i64 (x : Int))) := (But.refl B (· = lb) w).setCell (p := ⟨lb, 5, none⟩) (.inr rfl) _
  exact ⟨I.ls.setT x, ownsRow_setCell_below I.on hlB _, ownsRow_setCell_below I.os hlB _, I.ap, I.byt.later hb2 hbB (fun e => hlb e.symm), by have := hb2.size; have := I.size; omega, I.but.trans hb2⟩
theorem LsJ.setA (I : LsJ B w0 w lb b off ct u pl a vN vS ns zs tt) (hlB : lb < B) (hbB : b < B) (hlb : lb ≠ b) (x : Nat) : LsJ B w0 (w.setCell ⟨lb, 2, none⟩ (.int .i64 (x : Int))) lb b off ct u pl x vN vS ns zs tt := by
  have hb2 : But B (· = lb) w (w.setCell ⟨lb, 2, none⟩ (.int .i64 (x : Int))) := (But.refl B (· = lb) w).setCell (p := ⟨lb, 2, none⟩) (.inr rfl) _
  exact ⟨I.ls.setA x, ownsRow_setCell_below I.on hlB _, ownsRow_setCell_below I.os hlB _, I.ap, I.byt.later hb2 hbB (fun e => hlb e.symm), by have := hb2.size; have := I.size; omega, I.but.trans hb2⟩
end
section
variable (B lb b off ct : Nat) (u : List UInt8) (pl a : Nat) (vN vS : Value) (ns : List (List UInt8)) (zs : List Nat) (hlB : lb < B) (hbB : b < B) (hlb : lb ≠ b) (hu : u.length ≤ 1000000) (hct : u.length < ct) (ha : a ≤ u.length) (hpl : pl ≤ 1000000000000) (hns : ns.length < 1000) (hzl : zs.length = ns.length) (hzs : zs.sum ≤ 65536) (w : World) (I : LsI B w lb b off ct u pl a vN vS ns zs)
set_option maxHeartbeats 4000000 in
set_option maxRecDepth 100000 in
include hlB hbB hlb hu hct ha hpl hns hzl hzs I in
theorem readBlob_4 (k : Nat) (hk : le u a 2 = k) (hs : a + 6 + k ≤ u.length) (hk1 : 1 ≤ k) (hk2 : k ≤ 255) (nm : List UInt8) (hnm : part u (a + 2) k = nm) (z : Nat) (hz : le u (a + 2 + k) 4 = z) (hbig : zs.sum + z ≤ 65536) (hq : 0 < ns.length → notBehind nm (ns.getD (ns.length - 1) []) = false) :
    Calls Tryz.prog 142 #[.pointer (some ⟨lb, 0, none⟩)] w fun q w' => q = .returned .nilIface ∧ But B (· = lb) w w' ∧ ∃ vN vS, LsI B w' lb b off ct u pl (a + (6 + nm.length)) vN vS (ns ++ [nm]) (zs ++ [z]) := by
  have K := nameLength_any lb b off ct u pl a vN vS zs.sum hu hct ha w I.ls I.byt (by omega)
  rw [hk, show decide (1 ≤ k ∧ k ≤ 255 ∧ a + 6 + k ≤ u.length) = true by simp; omega] at K
  have sl := slice_part b off u.length ct (a : Int) ((a : Int) + (k : Int) + 6) a (a + k + 6) rfl (by simp) (by omega) (by omega) (by omega)
  rw [show a + k + 6 - a = k + 6 by omega] at sl
  obtain ⟨ce, ece⟩ : ∃ ce, ct - a = ce := ⟨_, rfl⟩
  have hce : k + 6 < ce := by omega
  rw [ece] at sl
  have sl2 := slice_part b (off + a) (k + 6) ce 2 (2 + (k : Int)) 2 (2 + k) rfl (by simp) (by omega) (by omega) (by omega)
  rw [show 2 + k - 2 = k by omega] at sl2
  have hcv := fun w' (hw : Byt w' b off u) => conv_part (hw.part (a := a + 2) (n := k) (by omega)) k (part_length (by omega)) (ce - 2)
  rw [show off + (a + 2) = off + a + 2 by omega, hnm] at hcv
  have c0 := RowAt.cell I.ls (i := 0) rfl
  have c2 := RowAt.cell I.ls (i := 2) rfl
  have c3 := RowAt.cell I.ls (i := 3) rfl
  have c5 := RowAt.cell I.ls (i := 5) rfl
  have hb2 : ∀ j, Byt (w.drewN j) b off u := fun j => I.byt
  have hwr : IntKind.i64.wrap ((a : Int) + (k : Int)) = (a : Int) + (k : Int) := IntWalk.i64_in _ (by omega)
  have hwr2 : IntKind.i64.wrap ((a : Int) + (k : Int) + 6) = (a : Int) + (k : Int) + 6 := IntWalk.i64_in _ (by omega)
  have KW := fun j (x : Nat) hx => wrong_any lb _ pl a vN vS zs.sum hpl (by omega) (w.drewN j) (I.ls.drewN j) (x : Int) x (pl + a + x) rfl hx rfl
  have e4 : (part u (a + 2 + k) 4).length = 4 := part_length (by omega)
  have hle4 : le (part u (a + 2 + k) 4) 0 4 = le u (a + 2 + k) 4 := by
    simp only [le]
    rw [part_at (by omega), part_at (by omega), part_at (by omega), part_at (by omega)]
    simp only [Nat.add_zero, Nat.zero_add, Nat.add_assoc]
  have sl3 := slice_from b (off + a) (k + 6) ce (2 + (k : Int)) (2 + k) (by simp) (by omega) (by omega)
  rw [show k + 6 - (2 + k) = 4 by omega] at sl3
  have K4 := fun n cap => readNumber_any b (off + (a + 2 + k)) 4 cap (part u (a + 2 + k) 4) e4 (by omega) (w.drewN n) (I.byt.part (by omega))
  rw [hle4, hz, show off + (a + 2 + k) = off + a + (2 + k) by omega] at K4
  have hz32 : z < 2 ^ 32 := by have := le_lt u 4 (a + 2 + k); rw [hz] at this; exact this
  obtain ⟨S, eS⟩ : ∃ S, zs.sum = S := ⟨_, rfl⟩
  rw [eS] at c5 hbig hzs
  have ES : Hid (zs.sum = S) := eS
  have EN : Hid (nm.length = k) := by show _ = _; rw [← hnm]; exact part_length (by omega)
  obtain ⟨is, his, hzs0, hzs1, hzs2⟩ := info_parts infoS
  obtain ⟨ii, hii, hzi0, hzi1, hzi2⟩ := info_parts infoI
  have hnl : ns.length < 1000 := hns
  have hzl2 : zs.length < 1000 := by omega
  by_cases q0 : ns.length = 0
  · have c3' : w.cell? ⟨lb, 3, none⟩ = some (.slice none 0 0) ∨ ∃ g cn, w.cell? ⟨lb, 3, none⟩ = some (.slice (some ⟨g, 0, none⟩) 0 cn) := by
      rcases I.on.2 with ⟨e, _⟩ | ⟨g, cn, cur, e, _⟩
      · left; rw [c3, e]
      · right; exact ⟨g, cn, by rw [c3, e, q0]⟩
    clear KW c3 ece hk hs hq hle4 e4 hz eS hnm hzl hns q0
    rcases c3' with c3 | ⟨g, cn, c3⟩
    all_goals
      go_enter Tryz.func142, Tryz.ntmps142
      go_wp2_with (first | (go_at_call 144; refine K.mono ?_; rintro q w2 ⟨rfl, j, hw2⟩; obtain rfl := hw2.symm))
      go_big_quiet (fail)
      obtain ⟨n1, en1⟩ : ∃ n1, j + nq = n1 := ⟨_, rfl⟩
      rw [drewN_add, en1]
      clear en1
      have hcv1 := hcv _ (hb2 n1)
      go_wp2_with fail
      go_big_quiet (fail)
      go_upto_region 11 with (first | (go_at_call 139; refine (K4 _ _).mono ?_; rintro q w' ⟨rfl, hw'⟩; obtain rfl := hw'.symm))
      have I0 : ∀ n, LsJ B w (w.drewN n) lb b off ct u pl a vN vS ns zs S := fun n => ⟨by rw [← ES.out]; exact I.ls, I.on, I.os, I.ap, I.byt, I.size, (But.refl _ _ _).drewN _⟩
      try rw [drewN_add]
      replace I0 := I0 (n1 + nq)
      generalize w.drewN (n1 + nq) = wd at I0 ⊢
      have hB0 := I0.size
      have d3 := RowAt.cell I0.ls (i := 3) rfl
      clear I K K4 sl sl2 sl3 hcv hcv1 c0 c2 c3 c5 hb2 hct hwr hwr2
      go_wp2_with (first | (at_builtin; refine wpList_append_own_at _ rfl _ _ 22 rfl B 9 is (.string ⟨#[]⟩) 1 16 Tryz.underlying22 his hzs0 hzs1 hzs2 rfl (by decide) _ _ _ rfl (I0.on.alloc _) ⟨wd.heap.size, 0, none⟩ 1 1 [.string ⟨nm.toArray⟩] rfl rfl (cell_one_new _ _ _) (one_str _) (by unfold maxLen; omega) (by omega) (by simp; omega) ?_; intro v1 w1 hown1 hgrow1 _ hblk1; obtain ⟨g1, p1, rfl⟩ := owns_some hown1 (by omega); obtain ⟨I1, x3, f3⟩ := I0.addN hlB hbB hlb hown1 hgrow1 hblk1; have hB1 := I1.size; have d4 := RowAt.cell I1.ls (i := 4) rfl; clear hgrow1 hown1 hblk1) | (at_builtin; refine wpList_append_own_at _ rfl _ _ 34 rfl B 3 ii (.int .i64 0) 1 8 Tryz.underlying34 hii hzi0 hzi1 hzi2 rfl (by decide) _ _ _ rfl (I1.os.alloc _) ⟨_, 0, none⟩ 1 1 [.int .i64 (z : Int)] rfl rfl (cell_one_at _ _ _ _ (by simp)) (one_i64 _) (by unfold maxLen; omega) (by omega) (by simp at hB1 ⊢; omega) ?_; intro v2 w2 hown2 hgrow2 _ hblk2; obtain ⟨g2, p2, rfl⟩ := owns_some hown2 (by omega); obtain ⟨I2, x4, f4⟩ := I1.addS hlB hbB hlb hown2 hgrow2 hblk2; have d5 := RowAt.cell I2.ls (i := 5) rfl; have f5 := RowAt.frozen I2.ls 5; have d2 := RowAt.cell I2.ls (i := 2) rfl; have f2 := RowAt.frozen I2.ls 2; clear hgrow2 hown2 hblk2))
      have I3 := (I2.setT hlB hbB hlb (S + z)).setA hlB hbB hlb (a + (k + 6))
      go_ret
      refine ⟨rfl, I3.but, _, _, ⟨?_, I3.on, I3.os, I3.ap, I3.byt, I3.size⟩⟩
      have hl := I3.ls
      rw [EN.out, List.sum_append, ES.out, show a + (6 + k) = a + (k + 6) by omega]
      simpa using hl
  · replace hq := hq (by omega)
    obtain ⟨c0', ec⟩ : ∃ c0', ns.length = c0' + 1 := ⟨ns.length - 1, by omega⟩
    have hon := I.on
    obtain ⟨g, cn, ev⟩ := owns_some hon (by omega)
    rw [ev] at hon c3
    have hla := hon.cellAt c0' (by omega)
    rw [strV_at (by omega)] at hla
    rw [show ns.length - 1 = c0' by omega] at hq
    obtain ⟨la, el⟩ : ∃ la, ns.getD c0' [] = la := ⟨_, rfl⟩
    rw [el] at hla hq
    rw [ec] at c3 hns
    unfold notBehind at hq
    obtain ⟨hq1, hq2⟩ := Bool.or_eq_false_iff.1 hq
    clear KW hon ev el ec ece hk hs hq hle4 e4 hz eS hnm hzl q0
    go_enter Tryz.func142, Tryz.ntmps142
    go_wp2_with (first | (go_at_call 144; refine K.mono ?_; rintro q w2 ⟨rfl, j, hw2⟩; obtain rfl := hw2.symm))
    go_big_quiet (fail)
    obtain ⟨n1, en1⟩ : ∃ n1, j + nq = n1 := ⟨_, rfl⟩
    rw [drewN_add, en1]
    clear en1
    have hcv1 := hcv _ (hb2 n1)
    go_wp2_with fail
    go_big_quiet (fail)
    go_upto_region 11 with (first | (go_at_call 139; refine (K4 _ _).mono ?_; rintro q w' ⟨rfl, hw'⟩; obtain rfl := hw'.symm))
    have I0 : ∀ n, LsJ B w (w.drewN n) lb b off ct u pl a vN vS ns zs S := fun n => ⟨by rw [← ES.out]; exact I.ls, I.on, I.os, I.ap, I.byt, I.size, (But.refl _ _ _).drewN _⟩
    try rw [drewN_add]
    replace I0 := I0 (n1 + nq)
    generalize w.drewN (n1 + nq) = wd at I0 ⊢
    have hB0 := I0.size
    have d3 := RowAt.cell I0.ls (i := 3) rfl
    clear I K K4 sl sl2 sl3 hcv hcv1 c0 c2 c3 c5 hb2 hct hwr hwr2
    go_wp2_with (first | (at_builtin; refine wpList_append_own_at _ rfl _ _ 22 rfl B 9 is (.string ⟨#[]⟩) 1 16 Tryz.underlying22 his hzs0 hzs1 hzs2 rfl (by decide) _ _ _ rfl (I0.on.alloc _) ⟨wd.heap.size, 0, none⟩ 1 1 [.string ⟨nm.toArray⟩] rfl rfl (cell_one_new _ _ _) (one_str _) (by unfold maxLen; omega) (by omega) (by simp; omega) ?_; intro v1 w1 hown1 hgrow1 _ hblk1; obtain ⟨g1, p1, rfl⟩ := owns_some hown1 (by omega); obtain ⟨I1, x3, f3⟩ := I0.addN hlB hbB hlb hown1 hgrow1 hblk1; have hB1 := I1.size; have d4 := RowAt.cell I1.ls (i := 4) rfl; clear hgrow1 hown1 hblk1) | (at_builtin; refine wpList_append_own_at _ rfl _ _ 34 rfl B 3 ii (.int .i64 0) 1 8 Tryz.underlying34 hii hzi0 hzi1 hzi2 rfl (by decide) _ _ _ rfl (I1.os.alloc _) ⟨_, 0, none⟩ 1 1 [.int .i64 (z : Int)] rfl rfl (cell_one_at _ _ _ _ (by simp)) (one_i64 _) (by unfold maxLen; omega) (by omega) (by simp at hB1 ⊢; omega) ?_; intro v2 w2 hown2 hgrow2 _ hblk2; obtain ⟨g2, p2, rfl⟩ := owns_some hown2 (by omega); obtain ⟨I2, x4, f4⟩ := I1.addS hlB hbB hlb hown2 hgrow2 hblk2; have d5 := RowAt.cell I2.ls (i := 5) rfl; have f5 := RowAt.frozen I2.ls 5; have d2 := RowAt.cell I2.ls (i := 2) rfl; have f2 := RowAt.frozen I2.ls 2; clear hgrow2 hown2 hblk2))
    have I3 := (I2.setT hlB hbB hlb (S + z)).setA hlB hbB hlb (a + (k + 6))
    go_ret
    refine ⟨rfl, I3.but, _, _, ⟨?_, I3.on, I3.os, I3.ap, I3.byt, I3.size⟩⟩
    have hl := I3.ls
    rw [EN.out, List.sum_append, ES.out, show a + (6 + k) = a + (k + 6) by omega]
    simpa using hl
end
end Go.Proofs.YtlghjjennhpjeaaGreatDoor

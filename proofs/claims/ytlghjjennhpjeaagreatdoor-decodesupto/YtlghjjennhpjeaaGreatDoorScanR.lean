/-
  How the document reads a shard: its tail; the whole of it.
  How the document reads a shard: more bytes behind its tail; all of Parse.
-/
import Derived.Test.YtlghjjennhpjeaaGreatDoorScanP
namespace Go.Proofs.YtlghjjennhpjeaaGreatDoor
open Go.RowKit Go.Deep

theorem owns_baseQ {w : World} {B B' e size n : Nat} {v : Value} {xs : List Value} (h : w.ownsRow B e size v n xs) (hB : B' ≤ B) : w.ownsRow B' e size v n xs := by
  refine ⟨h.1, ?_⟩
  rcases h.2 with x | ⟨g, cap, cur, h1, h2, h3⟩
  · exact .inl x
  · exact .inr ⟨g, cap, cur, h1, Nat.le_trans hB h2, h3⟩
theorem owns_sl3 {w : World} {B e size n : Nat} {v : Value} {xs : List Value} (h : w.ownsRow B e size v n xs) : ∃ a m c, v = .slice a m c := by
  rcases h.2 with ⟨h1, _⟩ | ⟨g, cap, cur, h1, _⟩
  · exact ⟨_, _, _, h1⟩
  · exact ⟨_, _, _, h1⟩
section
variable (bb bo cap : Nat) (l : List UInt8) (hl : l.length < 2 ^ 58) (hcap : l.length ≤ cap) (w : World) (hb : Byt w bb bo l) (hbb : bb < w.heap.size) (he : headE l = none) (ns : List (List UInt8)) (zs : List Nat) (hn : namesE l (le l 14 4) = .ok (ns, zs)) (hq : le l 18 4 = lengthS (le l 6 1) zs)
set_option maxHeartbeats 4000000 in
set_option maxRecDepth 100000 in
include hl hcap hb hbb he hn hq in
theorem parse_tail (col : List UInt8) (a : Nat) (hf : framesE l (decide (le l 8 1 < le l 6 1)) (le l 10 4) (le l 18 4) ((totalS zs : Int) - ((le l 8 1 * lengthS (le l 6 1) zs : Nat) : Int)) (le l 18 4) (32 + le l 14 4 + 8) [] = .ok (col, a)) (e : Nat × Nat) (hx : fixE l a magic2 = some e) :
    Calls Tryz.prog 12 #[(.slice (some ⟨bb, bo, none⟩) l.length cap)] w (ParsePost l w) := by
  have ha : a ≤ l.length := framesE_le l _ _ _ _ _ _ _ (by
    obtain ⟨gs, _⟩ := namesE_ok hn
    have := sealE_room gs
    omega) hf
  have HE : Hid (parseE l = .error e) := by
    show parseE l = _
    unfold parseE
    rw [he, hn]
    simp only
    rw [if_pos hq, hf]
    simp only
    rw [hx]
    simp only [orE]
  obtain ⟨g1, g2, g3⟩ := head_right l he
  have h32 : 32 ≤ l.length := by have := sealE_room g2; omega
  have hr := headR_none g3
  have hhead : ∀ sb w1, bb ≠ sb → ScR w1 sb (.slice (some ⟨bb, bo, none⟩) l.length cap) 0 none → Byt w1 bb bo l → bb < w1.heap.size →
      Calls Tryz.prog 28 #[.pointer (some ⟨sb, 0, none⟩)] w1 fun q w' => q = .returned (.agg (shardL (le l 6 1) (le l 7 1) (le l 8 1) (le l 10 4) (.slice none 0 0) (.slice none 0 0) (.slice none 0 0)).toArray) ∧ ScR w' sb (.slice (some ⟨bb, bo, none⟩) l.length cap) 0 none ∧ But w1.heap.size (· = sb) w1 w' := fun sb w1 hbs h3 h4 h5 => by
    have := head_ok sb bb bo cap hbs l (by omega) hcap w1 h3 h4 h5 g1 g2
    rw [g3] at this
    exact this
  obtain ⟨k, ek⟩ : ∃ k, le l 6 1 = k := ⟨_, rfl⟩
  obtain ⟨n, en⟩ : ∃ n, le l 7 1 = n := ⟨_, rfl⟩
  obtain ⟨i, ei⟩ : ∃ i, le l 8 1 = i := ⟨_, rfl⟩
  obtain ⟨ch, ech⟩ : ∃ ch, le l 10 4 = ch := ⟨_, rfl⟩
  obtain ⟨m, em⟩ : ∃ m, le l 14 4 = m := ⟨_, rfl⟩
  obtain ⟨ln, eln⟩ : ∃ ln, le l 18 4 = ln := ⟨_, rfl⟩
  have EM : Hid (le l 14 4 = m) := em
  have EL : Hid (le l 18 4 = ln) := eln
  simp only [ek, en, ei, ech] at hhead
  rw [em] at hn
  simp only [ek, ei, ech, em, eln] at hf
  rw [ek, eln] at hq
  simp only [ek, en, ei, ech, em, eln] at hr
  clear ek en ei ech em eln g1 g2 g3 he
  unfold shardL at hhead
  have hA : RowAt ((w.alloc (.cells (shardL 0 0 0 0 (.slice none 0 0) (.slice none 0 0) (.slice none 0 0)).toArray 41)).alloc (.cells (scanL (.slice (some ⟨bb, bo, none⟩) l.length cap) 0 0 0).toArray 81)) (w.heap.size + 1) (scanL (.slice (some ⟨bb, bo, none⟩) l.length cap) 0 0 0) 81 := by
    have := RowAt.made (w.alloc (.cells (shardL 0 0 0 0 (.slice none 0 0) (.slice none 0 0) (.slice none 0 0)).toArray 41)) (scanL (.slice (some ⟨bb, bo, none⟩) l.length cap) 0 0 0) 81
    simpa using this
  have hbe : But w.heap.size (fun _ => False) w ((w.alloc (.cells (shardL 0 0 0 0 (.slice none 0 0) (.slice none 0 0) (.slice none 0 0)).toArray 41)).alloc (.cells (scanL (.slice (some ⟨bb, bo, none⟩) l.length cap) 0 0 0).toArray 81)) := ((But.refl _ _ _).alloc (Nat.le_refl _) _).alloc (by simp) _
  have hR : RowAt ((w.alloc (.cells (shardL 0 0 0 0 (.slice none 0 0) (.slice none 0 0) (.slice none 0 0)).toArray 41)).alloc (.cells (scanL (.slice (some ⟨bb, bo, none⟩) l.length cap) 0 0 0).toArray 81)) w.heap.size (shardL 0 0 0 0 (.slice none 0 0) (.slice none 0 0) (.slice none 0 0)) 41 :=
    (RowAt.made w _ _).later (S := fun _ => False) (But.alloc (But.refl _ _ _) (Nat.le_refl _) _) (by simp) id
  have hsz : ((w.alloc (.cells (shardL 0 0 0 0 (.slice none 0 0) (.slice none 0 0) (.slice none 0 0)).toArray 41)).alloc (.cells (scanL (.slice (some ⟨bb, bo, none⟩) l.length cap) 0 0 0).toArray 81)).heap.size = w.heap.size + 2 := by simp
  have hS1 : ScR _ (w.heap.size + 1) (.slice (some ⟨bb, bo, none⟩) l.length cap) 0 none := ⟨hA, errs_none⟩
  have hb1 := hb.later hbe hbb id
  unfold shardL scanL at hS1 hb1 hR hbe hsz
  go_enter Tryz.func12, Tryz.ntmps12
  go_upto_region 2 with fail
  generalize (w.alloc (Obj.cells (List.toArray [Value.int .i64 ((0 : Nat) : Int), Value.int .i64 ((0 : Nat) : Int), Value.int .i64 ((0 : Nat) : Int), Value.int .i64 ((0 : Nat) : Int), Value.slice none 0 0, Value.slice none 0 0, Value.slice none 0 0]) 41)).alloc (Obj.cells (List.toArray [Value.slice (some ⟨bb, bo, none⟩) l.length cap, Value.int .i64 ((0 : Nat) : Int), Value.int .i64 ((0 : Nat) : Int), Value.int .i64 ((0 : Nat) : Int)]) 81) = w1 at hS1 hb1 hR hbe hsz ⊢
  go_upto_region 3 with (first | (go_at_call 28; refine (hhead (w.heap.size + 1) w1 (by omega) hS1 hb1 (by omega)).mono ?_; rintro q w2 ⟨rfl, hS2, hB2⟩))
  have hR2 := hR.later hB2 (by omega) (by omega)
  have hb2 := hb1.later hB2 (by omega) (by omega)
  have hsz2 := hB2.size
  have hX3 : ShX (w2.alloc (.cells (List.toArray [Value.int .i64 (k : Int), Value.int .i64 (n : Int), Value.int .i64 (i : Int), Value.int .i64 (ch : Int), Value.slice none 0 0, Value.slice none 0 0, Value.slice none 0 0]) 41)) w2.heap.size k n i ch (.slice none 0 0) (.slice none 0 0) (.slice none 0 0) := ⟨RowAt.made w2 _ _⟩
  have hbx : But w2.heap.size (fun _ => False) w2 (w2.alloc (.cells (List.toArray [Value.int .i64 (k : Int), Value.int .i64 (n : Int), Value.int .i64 (i : Int), Value.int .i64 (ch : Int), Value.slice none 0 0, Value.slice none 0 0, Value.slice none 0 0]) 41)) := But.alloc (But.refl _ _ _) (Nat.le_refl _) _
  have hS3 := hS2.later hbx hS2.lt id
  have hR3 := hR2.later hbx (by omega) id
  have hb3 := hb2.later hbx (by omega) id
  have hsz3 : (w2.alloc (.cells (List.toArray [Value.int .i64 (k : Int), Value.int .i64 (n : Int), Value.int .i64 (i : Int), Value.int .i64 (ch : Int), Value.slice none 0 0, Value.slice none 0 0, Value.slice none 0 0]) 41)).heap.size = w2.heap.size + 1 := by simp
  generalize w2.alloc (Obj.cells (List.toArray [Value.int .i64 (k : Int), Value.int .i64 (n : Int), Value.int .i64 (i : Int), Value.int .i64 (ch : Int), Value.slice none 0 0, Value.slice none 0 0, Value.slice none 0 0]) 41) = w3 at hX3 hbx hS3 hR3 hb3 hsz3 ⊢
  have hBB : Below w.heap.size w w3 := ((hbe.trans ((hB2.mono (by omega) (fun _ x => x)).below (fun k hk hs => by omega) |> But.of_below)).trans (hbx.mono (by omega) (fun _ x => x))).below (fun _ _ x => x)
  obtain ⟨xb, exb⟩ : ∃ xb, w2.heap.size = xb := ⟨_, rfl⟩
  rw [exb] at hX3 hsz3 ⊢
  have hxlt : w.heap.size + 2 ≤ xb := by omega
  clear hS2 hB2 hR2 hb2 hbx hsz2 hS1 hb1 hR hbe hsz hhead hA exb
  have KN := names_any (w.heap.size + 1) xb bb bo cap (by omega) (by omega) (by omega) l (by omega) hcap m (by omega) (by omega) k n i ch 0 w3 hS3 hX3 hb3 (by omega)
  unfold NamesPost at KN
  rw [hn] at KN
  simp only at KN
  have e2 := hS3.scn.c2
  simp only [eR] at e2
  obtain ⟨gs, gz, gl, gt, _⟩ := namesE_ok hn
  have hzz : ∀ j, zs.getD j 0 < 2 ^ 63 := fun j => by have := gz j; omega
  have HL : Hid (lengthS k zs = ln) := hq.symm
  clear hq
  have h40 : 32 + m + 8 ≤ l.length := sealE_room gs
  go_upto_region 10 with (first | (go_at_call 29; refine (num_ok (sb := w.heap.size + 1) (bb := bb) (bo := bo) (cap := cap) (l := l) (at_ := 0) _ _ 14 4 (by rfl) (by rfl) (by omega) (by omega) (by exact hS3) (by exact hb3) (by omega)).mono ?_; rintro q w' ⟨rfl, hw'⟩; obtain rfl := hw'.symm; rw [EM.out]) | (go_at_call 29; refine (num_ok (sb := w.heap.size + 1) (bb := bb) (bo := bo) (cap := cap) (l := l) (at_ := 0) _ _ 18 4 (by rfl) (by rfl) (by omega) (by omega) (by exact hS3) (by exact hb3) (by omega)).mono ?_; rintro q w' ⟨rfl, hw'⟩; obtain rfl := hw'.symm; rw [EL.out]) | (go_at_call 30; refine KN.mono ?_; clear KN; rintro q w4 ⟨rfl, hB4, vN, vS, J⟩; have z2 := J.sc.scn.c2; have z1 := J.sc.scn.c1; have y1 := RowAt.frozen J.sc.scn 1; simp only [eR] at z2 z1; have x0 := J.sh.row.cell (i := 0) rfl; have x5 := J.sh.row.cell (i := 5) rfl; have hs4 := hB4.size; have hR4 := hR3.later hB4 (by omega) (by omega); have hb4 := hb3.later hB4 (by omega) (by omega); have hH4 := hold_owns J.os; have hBz4 : Below w.heap.size w w4 := (But.of_below hBB |>.trans (hB4.mono (by omega) (fun _ x => x))).below (fun k hk x => by omega); clear hR3 hb3 hS3 hX3 hBB e2 hB4) | (go_at_call 32; refine (length_any _ k (by rfl) (by omega) (by omega) vS zs hzz (by omega) _ (by exact hH4)).mono ?_; rintro q w' ⟨rfl, hw'⟩; obtain rfl := hw'.symm; rw [HL.out]) | (go_at_call 31; refine (must_true _ _ _ _).mono ?_; rintro q w' ⟨rfl, hw'⟩; obtain rfl := hw'.symm))
  have hS6 : ScR (w4.setCell ⟨w.heap.size + 1, 1, none⟩ (.int .i64 ((32 + m + 8 : Nat) : Int))) (w.heap.size + 1) (.slice (some ⟨bb, bo, none⟩) l.length cap) (32 + m + 8) none := ⟨J.sc.scn.setAt _, J.sc.errs⟩
  have hB6 : But w4.heap.size (· = w.heap.size + 1) w4 (w4.setCell ⟨w.heap.size + 1, 1, none⟩ (.int .i64 ((32 + m + 8 : Nat) : Int))) := (But.refl w4.heap.size (· = w.heap.size + 1) w4).setCell (p := ⟨w.heap.size + 1, 1, none⟩) (.inr rfl) _
  rw [show ((32 + m + 8 : Nat) : Int) = 32 + (m : Int) + 8 by omega] at hS6 hB6
  generalize w4.setCell ⟨w.heap.size + 1, 1, none⟩ (.int .i64 (32 + (m : Int) + 8)) = w6 at hS6 hB6 ⊢
  have hX6 := J.sh.later hB6 J.sh.row.lt (by omega)
  have hO6 := owns_later J.os (w' := w6) (fun g hg => hB6.block g (J.os.lt g hg).2 (by have := (J.os.lt g hg).1; omega))
  have hN6 := owns_later J.on (w' := w6) (fun g hg => hB6.block g (J.on.lt g hg).2 (by have := (J.on.lt g hg).1; omega))
  have hR6 := hR4.later hB6 (by omega) (by omega)
  have hb6 := hb4.later hB6 (by omega) (by omega)
  have hBz6 : Below w.heap.size w w6 := (But.of_below hBz4 |>.trans (hB6.mono (by omega) (fun _ x => x))).below (fun k hk x => by omega)
  have hs6 := hB6.size
  have KF := frames_ok (w.heap.size + 1) xb bb bo cap (by omega) (by omega) (by omega) l (by omega) hcap k n i ch (32 + m + 8) (by omega) (by omega) (by omega) vN vS zs hzz (by omega) ln (by omega) w6 hX6 (hold_owns hO6) hb6 (by omega) hS6 (by omega) hl (by omega) (by omega)
  unfold FramesPost at KF
  rw [hf] at KF
  simp only at KF
  clear hB6 hR4 hBz4 hb4 hH4 z1 z2 y1 x0 x5 hX6
  go_upto_region 12 with (first | (go_at_call 33; refine KF.mono ?_; clear KF; rintro q w7 ⟨rfl, vC, Q⟩; have hb7 := hb6.later Q.but (by omega) (by omega); have hs7 := Q.but.size; have hR7 := hR6.later Q.but (by omega) (by omega); have hB7 : Below w.heap.size w w7 := (But.of_below hBz6 |>.trans (Q.but.mono hBz6.size (fun _ x => x))).below (fun k hk x => by omega)) | (go_at_call 34; refine (fixed_r (sb := w.heap.size + 1) (bb := bb) (bo := bo) (cap := cap) (l := l) (at_ := a) (r := none) magic2 (by decide) (by omega) (by omega) (by omega) (by exact Q.sc) (by exact hb7) (by omega)).mono ?_; rintro q w8 ⟨rfl, hS8, hB8⟩; rw [hx] at hS8; have z2 := hS8.scn.c2; have z1 := hS8.scn.c1; have z3 := hS8.scn.c3; simp only [orE, eR, pR] at z1 z2 z3; have hR8 := hR7.later hB8 (by omega) (by omega); have hs8 := hB8.size; have hB8' : Below w.heap.size w w8 := (But.of_below hB7 |>.trans (hB8.mono hB7.size (fun _ x => x))).below (fun k hk x => by omega)))
  have ze := hS8.errs e rfl
  have zE : ((e.1 : Int) == 0) = false := by simp; omega
  have z2' : ∀ nq, (w8.drewN nq).cell? ⟨w.heap.size + 1, 2, none⟩ = some (.int .i64 (e.1 : Int)) := fun nq => z2
  go_big_quiet (first | (go_at_call 31; exact (must_stop _ _ _ _ e.1 ze _ (z2' _)).mono (fun _ _ h => ⟨h.1, _, h.2⟩)))
  go_upto_region 14 with fail
  have hRz : RowAt (w8.drewN nq) w.heap.size (shardL 0 0 0 0 (.slice none 0 0) (.slice none 0 0) (.slice none 0 0)) 41 := hR8
  have hBz : Below w.heap.size w (w8.drewN nq) := below_drewM hB8' nq
  have z2'' : (w8.drewN nq).cell? ⟨w.heap.size + 1, 2, none⟩ = some (.int .i64 (e.1 : Int)) := z2
  have z3'' : (w8.drewN nq).cell? ⟨w.heap.size + 1, 3, none⟩ = some (.int .i64 (e.2 : Int)) := z3
  clear z2' z1 z2 z3
  generalize w8.drewN nq = wz at hRz hBz z2'' z3'' ⊢
  have d0 := hRz.cell (i := 0) rfl
  have f0 := hRz.frozen 0
  have d1 := hRz.cell (i := 1) rfl
  have f1 := hRz.frozen 1
  have d2 := hRz.cell (i := 2) rfl
  have f2 := hRz.frozen 2
  have d3 := hRz.cell (i := 3) rfl
  have f3 := hRz.frozen 3
  have d4 := hRz.cell (i := 4) rfl
  have f4 := hRz.frozen 4
  have d5 := hRz.cell (i := 5) rfl
  have f5 := hRz.frozen 5
  have d6 := hRz.cell (i := 6) rfl
  have f6 := hRz.frozen 6
  go_region
  go_wp2
  have hF := RowAt.drew (((((((hRz.set 0 (.int .i64 0)).set 1 (.int .i64 0)).set 2 (.int .i64 0)).set 3 (.int .i64 0)).set 4 (.slice none 0 0)).set 5 (.slice none 0 0)).set 6 (.slice none 0 0))
  have hG := (((((((hBz.setCell (p := ⟨w.heap.size, 0, none⟩) (Nat.le_refl _) (.int .i64 0)).setCell (p := ⟨w.heap.size, 1, none⟩) (Nat.le_refl _) (.int .i64 0)).setCell (p := ⟨w.heap.size, 2, none⟩) (Nat.le_refl _) (.int .i64 0)).setCell (p := ⟨w.heap.size, 3, none⟩) (Nat.le_refl _) (.int .i64 0)).setCell (p := ⟨w.heap.size, 4, none⟩) (Nat.le_refl _) (.slice none 0 0)).setCell (p := ⟨w.heap.size, 5, none⟩) (Nat.le_refl _) (.slice none 0 0)).setCell (p := ⟨w.heap.size, 6, none⟩) (Nat.le_refl _) (.slice none 0 0)).drew
  have hF2 : _ = some (Obj.cells _ 41 (0, 0)) := hF
  refine bodyPost_ret (results_cell_2 (p := 2) (u := 3) (t := 4) rfl _ _ w.heap.size 41 _ (0, 0) _ (by rfl) hF2 Tryz.underlying41 rfl (by kernel_rfl)) rfl ?_
  refine ⟨hG, ?_⟩
  rw [HE.out]
  rfl

set_option maxHeartbeats 4000000 in
set_option maxRecDepth 100000 in
include hl hcap hb hbb he hn hq in
theorem parse_all (col : List UInt8) (a : Nat) (hf : framesE l (decide (le l 8 1 < le l 6 1)) (le l 10 4) (le l 18 4) ((totalS zs : Int) - ((le l 8 1 * lengthS (le l 6 1) zs : Nat) : Int)) (le l 18 4) (32 + le l 14 4 + 8) [] = .ok (col, a)) (hx : fixE l a magic2 = none) (hm : l.length ≤ a + 4) :
    Calls Tryz.prog 12 #[(.slice (some ⟨bb, bo, none⟩) l.length cap)] w (ParsePost l w) := by
  have ha : a ≤ l.length := framesE_le l _ _ _ _ _ _ _ (by
    obtain ⟨gs, _⟩ := namesE_ok hn
    have := sealE_room gs
    omega) hf
  have HE : Hid (parseE l = .ok ⟨le l 6 1, le l 7 1, le l 8 1, le l 10 4, ns, zs, col⟩) := by
    show parseE l = _
    unfold parseE
    rw [he, hn]
    simp only
    rw [if_pos hq, hf]
    simp only
    rw [hx, show decide (l.length ≤ a + 4) = true from decide_eq_true hm]
    simp only [orE, mustE, if_true]
  obtain ⟨g1, g2, g3⟩ := head_right l he
  have h32 : 32 ≤ l.length := by have := sealE_room g2; omega
  have hr := headR_none g3
  have hhead : ∀ sb w1, bb ≠ sb → ScR w1 sb (.slice (some ⟨bb, bo, none⟩) l.length cap) 0 none → Byt w1 bb bo l → bb < w1.heap.size →
      Calls Tryz.prog 28 #[.pointer (some ⟨sb, 0, none⟩)] w1 fun q w' => q = .returned (.agg (shardL (le l 6 1) (le l 7 1) (le l 8 1) (le l 10 4) (.slice none 0 0) (.slice none 0 0) (.slice none 0 0)).toArray) ∧ ScR w' sb (.slice (some ⟨bb, bo, none⟩) l.length cap) 0 none ∧ But w1.heap.size (· = sb) w1 w' := fun sb w1 hbs h3 h4 h5 => by
    have := head_ok sb bb bo cap hbs l (by omega) hcap w1 h3 h4 h5 g1 g2
    rw [g3] at this
    exact this
  obtain ⟨k, ek⟩ : ∃ k, le l 6 1 = k := ⟨_, rfl⟩
  obtain ⟨n, en⟩ : ∃ n, le l 7 1 = n := ⟨_, rfl⟩
  obtain ⟨i, ei⟩ : ∃ i, le l 8 1 = i := ⟨_, rfl⟩
  obtain ⟨ch, ech⟩ : ∃ ch, le l 10 4 = ch := ⟨_, rfl⟩
  obtain ⟨m, em⟩ : ∃ m, le l 14 4 = m := ⟨_, rfl⟩
  obtain ⟨ln, eln⟩ : ∃ ln, le l 18 4 = ln := ⟨_, rfl⟩
  have EM : Hid (le l 14 4 = m) := em
  have EK : Hid (le l 6 1 = k) := ek
  have EN : Hid (le l 7 1 = n) := en
  have EI : Hid (le l 8 1 = i) := ei
  have ECH : Hid (le l 10 4 = ch) := ech
  have EL : Hid (le l 18 4 = ln) := eln
  simp only [ek, en, ei, ech] at hhead
  rw [em] at hn
  simp only [ek, ei, ech, em, eln] at hf
  rw [ek, eln] at hq
  simp only [ek, en, ei, ech, em, eln] at hr
  clear ek en ei ech em eln g1 g2 g3 he
  unfold shardL at hhead
  have hA : RowAt ((w.alloc (.cells (shardL 0 0 0 0 (.slice none 0 0) (.slice none 0 0) (.slice none 0 0)).toArray 41)).alloc (.cells (scanL (.slice (some ⟨bb, bo, none⟩) l.length cap) 0 0 0).toArray 81)) (w.heap.size + 1) (scanL (.slice (some ⟨bb, bo, none⟩) l.length cap) 0 0 0) 81 := by
    have := RowAt.made (w.alloc (.cells (shardL 0 0 0 0 (.slice none 0 0) (.slice none 0 0) (.slice none 0 0)).toArray 41)) (scanL (.slice (some ⟨bb, bo, none⟩) l.length cap) 0 0 0) 81
    simpa using this
  have hbe : But w.heap.size (fun _ => False) w ((w.alloc (.cells (shardL 0 0 0 0 (.slice none 0 0) (.slice none 0 0) (.slice none 0 0)).toArray 41)).alloc (.cells (scanL (.slice (some ⟨bb, bo, none⟩) l.length cap) 0 0 0).toArray 81)) := ((But.refl _ _ _).alloc (Nat.le_refl _) _).alloc (by simp) _
  have hR : RowAt ((w.alloc (.cells (shardL 0 0 0 0 (.slice none 0 0) (.slice none 0 0) (.slice none 0 0)).toArray 41)).alloc (.cells (scanL (.slice (some ⟨bb, bo, none⟩) l.length cap) 0 0 0).toArray 81)) w.heap.size (shardL 0 0 0 0 (.slice none 0 0) (.slice none 0 0) (.slice none 0 0)) 41 :=
    (RowAt.made w _ _).later (S := fun _ => False) (But.alloc (But.refl _ _ _) (Nat.le_refl _) _) (by simp) id
  have hsz : ((w.alloc (.cells (shardL 0 0 0 0 (.slice none 0 0) (.slice none 0 0) (.slice none 0 0)).toArray 41)).alloc (.cells (scanL (.slice (some ⟨bb, bo, none⟩) l.length cap) 0 0 0).toArray 81)).heap.size = w.heap.size + 2 := by simp
  have hS1 : ScR _ (w.heap.size + 1) (.slice (some ⟨bb, bo, none⟩) l.length cap) 0 none := ⟨hA, errs_none⟩
  have hb1 := hb.later hbe hbb id
  unfold shardL scanL at hS1 hb1 hR hbe hsz
  go_enter Tryz.func12, Tryz.ntmps12
  go_upto_region 2 with fail
  generalize (w.alloc (Obj.cells (List.toArray [Value.int .i64 ((0 : Nat) : Int), Value.int .i64 ((0 : Nat) : Int), Value.int .i64 ((0 : Nat) : Int), Value.int .i64 ((0 : Nat) : Int), Value.slice none 0 0, Value.slice none 0 0, Value.slice none 0 0]) 41)).alloc (Obj.cells (List.toArray [Value.slice (some ⟨bb, bo, none⟩) l.length cap, Value.int .i64 ((0 : Nat) : Int), Value.int .i64 ((0 : Nat) : Int), Value.int .i64 ((0 : Nat) : Int)]) 81) = w1 at hS1 hb1 hR hbe hsz ⊢
  go_upto_region 3 with (first | (go_at_call 28; refine (hhead (w.heap.size + 1) w1 (by omega) hS1 hb1 (by omega)).mono ?_; rintro q w2 ⟨rfl, hS2, hB2⟩))
  have hR2 := hR.later hB2 (by omega) (by omega)
  have hb2 := hb1.later hB2 (by omega) (by omega)
  have hsz2 := hB2.size
  have hX3 : ShX (w2.alloc (.cells (List.toArray [Value.int .i64 (k : Int), Value.int .i64 (n : Int), Value.int .i64 (i : Int), Value.int .i64 (ch : Int), Value.slice none 0 0, Value.slice none 0 0, Value.slice none 0 0]) 41)) w2.heap.size k n i ch (.slice none 0 0) (.slice none 0 0) (.slice none 0 0) := ⟨RowAt.made w2 _ _⟩
  have hbx : But w2.heap.size (fun _ => False) w2 (w2.alloc (.cells (List.toArray [Value.int .i64 (k : Int), Value.int .i64 (n : Int), Value.int .i64 (i : Int), Value.int .i64 (ch : Int), Value.slice none 0 0, Value.slice none 0 0, Value.slice none 0 0]) 41)) := But.alloc (But.refl _ _ _) (Nat.le_refl _) _
  have hS3 := hS2.later hbx hS2.lt id
  have hR3 := hR2.later hbx (by omega) id
  have hb3 := hb2.later hbx (by omega) id
  have hsz3 : (w2.alloc (.cells (List.toArray [Value.int .i64 (k : Int), Value.int .i64 (n : Int), Value.int .i64 (i : Int), Value.int .i64 (ch : Int), Value.slice none 0 0, Value.slice none 0 0, Value.slice none 0 0]) 41)).heap.size = w2.heap.size + 1 := by simp
  generalize w2.alloc (Obj.cells (List.toArray [Value.int .i64 (k : Int), Value.int .i64 (n : Int), Value.int .i64 (i : Int), Value.int .i64 (ch : Int), Value.slice none 0 0, Value.slice none 0 0, Value.slice none 0 0]) 41) = w3 at hX3 hbx hS3 hR3 hb3 hsz3 ⊢
  have hBB : Below w.heap.size w w3 := ((hbe.trans ((hB2.mono (by omega) (fun _ x => x)).below (fun k hk hs => by omega) |> But.of_below)).trans (hbx.mono (by omega) (fun _ x => x))).below (fun _ _ x => x)
  obtain ⟨xb, exb⟩ : ∃ xb, w2.heap.size = xb := ⟨_, rfl⟩
  rw [exb] at hX3 hsz3 ⊢
  have hxlt : w.heap.size + 2 ≤ xb := by omega
  clear hS2 hB2 hR2 hb2 hbx hsz2 hS1 hb1 hR hbe hsz hhead hA exb
  have KN := names_any (w.heap.size + 1) xb bb bo cap (by omega) (by omega) (by omega) l (by omega) hcap m (by omega) (by omega) k n i ch 0 w3 hS3 hX3 hb3 (by omega)
  unfold NamesPost at KN
  rw [hn] at KN
  simp only at KN
  have e2 := hS3.scn.c2
  simp only [eR] at e2
  obtain ⟨gs, gz, gl, gt, _⟩ := namesE_ok hn
  have hzz : ∀ j, zs.getD j 0 < 2 ^ 63 := fun j => by have := gz j; omega
  have HL : Hid (lengthS k zs = ln) := hq.symm
  clear hq
  have h40 : 32 + m + 8 ≤ l.length := sealE_room gs
  go_upto_region 10 with (first | (go_at_call 29; refine (num_ok (sb := w.heap.size + 1) (bb := bb) (bo := bo) (cap := cap) (l := l) (at_ := 0) _ _ 14 4 (by rfl) (by rfl) (by omega) (by omega) (by exact hS3) (by exact hb3) (by omega)).mono ?_; rintro q w' ⟨rfl, hw'⟩; obtain rfl := hw'.symm; rw [EM.out]) | (go_at_call 29; refine (num_ok (sb := w.heap.size + 1) (bb := bb) (bo := bo) (cap := cap) (l := l) (at_ := 0) _ _ 18 4 (by rfl) (by rfl) (by omega) (by omega) (by exact hS3) (by exact hb3) (by omega)).mono ?_; rintro q w' ⟨rfl, hw'⟩; obtain rfl := hw'.symm; rw [EL.out]) | (go_at_call 30; refine KN.mono ?_; clear KN; rintro q w4 ⟨rfl, hB4, vN, vS, J⟩; have z2 := J.sc.scn.c2; have z1 := J.sc.scn.c1; have y1 := RowAt.frozen J.sc.scn 1; simp only [eR] at z2 z1; have x0 := J.sh.row.cell (i := 0) rfl; have x5 := J.sh.row.cell (i := 5) rfl; have hs4 := hB4.size; have hR4 := hR3.later hB4 (by omega) (by omega); have hb4 := hb3.later hB4 (by omega) (by omega); have hH4 := hold_owns J.os; have hBz4 : Below w.heap.size w w4 := (But.of_below hBB |>.trans (hB4.mono (by omega) (fun _ x => x))).below (fun k hk x => by omega); clear hR3 hb3 hS3 hX3 hBB e2 hB4) | (go_at_call 32; refine (length_any _ k (by rfl) (by omega) (by omega) vS zs hzz (by omega) _ (by exact hH4)).mono ?_; rintro q w' ⟨rfl, hw'⟩; obtain rfl := hw'.symm; rw [HL.out]) | (go_at_call 31; refine (must_true _ _ _ _).mono ?_; rintro q w' ⟨rfl, hw'⟩; obtain rfl := hw'.symm))
  have hS6 : ScR (w4.setCell ⟨w.heap.size + 1, 1, none⟩ (.int .i64 ((32 + m + 8 : Nat) : Int))) (w.heap.size + 1) (.slice (some ⟨bb, bo, none⟩) l.length cap) (32 + m + 8) none := ⟨J.sc.scn.setAt _, J.sc.errs⟩
  have hB6 : But w4.heap.size (· = w.heap.size + 1) w4 (w4.setCell ⟨w.heap.size + 1, 1, none⟩ (.int .i64 ((32 + m + 8 : Nat) : Int))) := (But.refl w4.heap.size (· = w.heap.size + 1) w4).setCell (p := ⟨w.heap.size + 1, 1, none⟩) (.inr rfl) _
  rw [show ((32 + m + 8 : Nat) : Int) = 32 + (m : Int) + 8 by omega] at hS6 hB6
  generalize w4.setCell ⟨w.heap.size + 1, 1, none⟩ (.int .i64 (32 + (m : Int) + 8)) = w6 at hS6 hB6 ⊢
  have hX6 := J.sh.later hB6 J.sh.row.lt (by omega)
  have hO6 := owns_later J.os (w' := w6) (fun g hg => hB6.block g (J.os.lt g hg).2 (by have := (J.os.lt g hg).1; omega))
  have hN6 := owns_later J.on (w' := w6) (fun g hg => hB6.block g (J.on.lt g hg).2 (by have := (J.on.lt g hg).1; omega))
  have hR6 := hR4.later hB6 (by omega) (by omega)
  have hb6 := hb4.later hB6 (by omega) (by omega)
  have hBz6 : Below w.heap.size w w6 := (But.of_below hBz4 |>.trans (hB6.mono (by omega) (fun _ x => x))).below (fun k hk x => by omega)
  have hs6 := hB6.size
  have KF := frames_ok (w.heap.size + 1) xb bb bo cap (by omega) (by omega) (by omega) l (by omega) hcap k n i ch (32 + m + 8) (by omega) (by omega) (by omega) vN vS zs hzz (by omega) ln (by omega) w6 hX6 (hold_owns hO6) hb6 (by omega) hS6 (by omega) hl (by omega) (by omega)
  unfold FramesPost at KF
  rw [hf] at KF
  simp only at KF
  clear hB6 hR4 hBz4 hb4 hH4 z1 z2 y1 x0 x5 hX6
  go_upto_region 12 with (first | (go_at_call 33; refine KF.mono ?_; clear KF; rintro q w7 ⟨rfl, vC, Q⟩; have hb7 := hb6.later Q.but (by omega) (by omega); have hs7 := Q.but.size; have hR7 := hR6.later Q.but (by omega) (by omega); have hB7 : Below w.heap.size w w7 := (But.of_below hBz6 |>.trans (Q.but.mono hBz6.size (fun _ x => x))).below (fun k hk x => by omega)) | (go_at_call 34; refine (fixed_r (sb := w.heap.size + 1) (bb := bb) (bo := bo) (cap := cap) (l := l) (at_ := a) (r := none) magic2 (by decide) (by omega) (by omega) (by omega) (by exact Q.sc) (by exact hb7) (by omega)).mono ?_; rintro q w8 ⟨rfl, hS8, hB8⟩; rw [hx] at hS8; have z2 := hS8.scn.c2; have z1 := hS8.scn.c1; have z3 := hS8.scn.c3; simp only [orE, eR, pR] at z1 z2 z3; have hR8 := hR7.later hB8 (by omega) (by omega); have hs8 := hB8.size; have hB8' : Below w.heap.size w w8 := (But.of_below hB7 |>.trans (hB8.mono hB7.size (fun _ x => x))).below (fun k hk x => by omega)))
  have hm2 : (l.length : Int) ≤ (a : Int) + 4 := by omega
  go_big_quiet (first | (go_at_call 31; exact (must_true _ _ _ _).mono (fun _ _ h => ⟨h.1, _, h.2⟩)))
  go_upto_region 15 with fail
  have hX8 := Q.sh.later hB8 (by have := Q.sh.row.lt; omega) (by omega)
  have hC8 := owns_later Q.oc (w' := w8) (fun g hg => hB8.block g (Q.oc.lt g hg).2 (by have := (Q.oc.lt g hg).1; omega))
  have hN8 := owns_later (owns_later hN6 (w' := w7) (fun g hg => Q.but.block g (hN6.lt g hg).2 (by have := (hN6.lt g hg).1; omega))) (w' := w8) (fun g hg => hB8.block g (by have := (hN6.lt g hg).2; omega) (by have := (hN6.lt g hg).1; omega))
  have hO8 := owns_later (owns_later hO6 (w' := w7) (fun g hg => Q.but.block g (hO6.lt g hg).2 (by have := (hO6.lt g hg).1; omega))) (w' := w8) (fun g hg => hB8.block g (by have := (hO6.lt g hg).2; omega) (by have := (hO6.lt g hg).1; omega))
  have hRz : RowAt (w8.drewN nq) w.heap.size (shardL 0 0 0 0 (.slice none 0 0) (.slice none 0 0) (.slice none 0 0)) 41 := hR8
  have hXz : ShX (w8.drewN nq) xb k n i ch vN vS vC := ⟨hX8.row⟩
  have hBz : Below w.heap.size w (w8.drewN nq) := below_drewM hB8' nq
  have hCz := owns_later hC8 (w' := w8.drewN nq) (fun _ _ => rfl)
  have hNz := owns_later hN8 (w' := w8.drewN nq) (fun _ _ => rfl)
  have hOz := owns_later hO8 (w' := w8.drewN nq) (fun _ _ => rfl)
  have hs4' : w.heap.size < w3.heap.size := by omega
  clear z1 z2 z3 hS8 hB8 hB8' hR8 hX8 hC8 hN8 hO8 hN6 hO6 hb7 hR7 hB7 hR6 hb6 hBz6 hS6 J
  have hs6' : w.heap.size < w6.heap.size := by omega
  generalize w8.drewN nq = wz at hRz hXz hBz hCz hNz hOz ⊢
  clear Q
  obtain ⟨pn, qn, cn, rfl⟩ := owns_sl3 hNz
  obtain ⟨ps, qs, cs, rfl⟩ := owns_sl3 hOz
  obtain ⟨pc, qc, cc, rfl⟩ := owns_sl3 hCz
  have d0 := hRz.cell (i := 0) rfl
  have f0 := hRz.frozen 0
  have x0 := hXz.row.cell (i := 0) rfl
  have d1 := hRz.cell (i := 1) rfl
  have f1 := hRz.frozen 1
  have x1 := hXz.row.cell (i := 1) rfl
  have d2 := hRz.cell (i := 2) rfl
  have f2 := hRz.frozen 2
  have x2 := hXz.row.cell (i := 2) rfl
  have d3 := hRz.cell (i := 3) rfl
  have f3 := hRz.frozen 3
  have x3 := hXz.row.cell (i := 3) rfl
  have d4 := hRz.cell (i := 4) rfl
  have f4 := hRz.frozen 4
  have x4 := hXz.row.cell (i := 4) rfl
  have d5 := hRz.cell (i := 5) rfl
  have f5 := hRz.frozen 5
  have x5 := hXz.row.cell (i := 5) rfl
  have d6 := hRz.cell (i := 6) rfl
  have f6 := hRz.frozen 6
  have x6 := hXz.row.cell (i := 6) rfl
  go_wp2
  have hF := (((((((hRz.set 0 (.int .i64 (k : Int))).set 1 (.int .i64 (n : Int))).set 2 (.int .i64 (i : Int))).set 3 (.int .i64 (ch : Int))).set 4 (.slice pn qn cn)).set 5 (.slice ps qs cs)).set 6 (.slice pc qc cc))
  have hG := (((((((hBz.setCell (p := ⟨w.heap.size, 0, none⟩) (Nat.le_refl _) (.int .i64 (k : Int))).setCell (p := ⟨w.heap.size, 1, none⟩) (Nat.le_refl _) (.int .i64 (n : Int))).setCell (p := ⟨w.heap.size, 2, none⟩) (Nat.le_refl _) (.int .i64 (i : Int))).setCell (p := ⟨w.heap.size, 3, none⟩) (Nat.le_refl _) (.int .i64 (ch : Int))).setCell (p := ⟨w.heap.size, 4, none⟩) (Nat.le_refl _) (.slice pn qn cn)).setCell (p := ⟨w.heap.size, 5, none⟩) (Nat.le_refl _) (.slice ps qs cs)).setCell (p := ⟨w.heap.size, 6, none⟩) (Nat.le_refl _) (.slice pc qc cc))
  have hT := ((((((((But.refl wz.heap.size (· = w.heap.size) wz).setCell (p := ⟨w.heap.size, 0, none⟩) (.inr rfl) (.int .i64 (k : Int))).setCell (p := ⟨w.heap.size, 1, none⟩) (.inr rfl) (.int .i64 (n : Int))).setCell (p := ⟨w.heap.size, 2, none⟩) (.inr rfl) (.int .i64 (i : Int))).setCell (p := ⟨w.heap.size, 3, none⟩) (.inr rfl) (.int .i64 (ch : Int))).setCell (p := ⟨w.heap.size, 4, none⟩) (.inr rfl) (.slice pn qn cn)).setCell (p := ⟨w.heap.size, 5, none⟩) (.inr rfl) (.slice ps qs cs)).setCell (p := ⟨w.heap.size, 6, none⟩) (.inr rfl) (.slice pc qc cc))
  have hF2 : _ = some (Obj.cells _ 41 (0, 0)) := hF
  refine bodyPost_ret (results_cell_2 (p := 2) (u := 3) (t := 4) rfl _ _ w.heap.size 41 _ (0, 0) _ (by rfl) hF2 Tryz.underlying41 rfl (by kernel_rfl)) rfl ?_
  refine ⟨hG, ?_⟩
  rw [HE.out, EK.out, EN.out, EI.out, ECH.out]
  refine ⟨_, _, _, rfl, owns_baseQ (owns_later hNz (fun g hg => hT.block g (hNz.lt g hg).2 (by have := (hNz.lt g hg).1; omega))) (by omega), owns_baseQ (owns_later hOz (fun g hg => hT.block g (hOz.lt g hg).2 (by have := (hOz.lt g hg).1; omega))) (by omega), owns_baseQ (owns_later hCz (fun g hg => hT.block g (hCz.lt g hg).2 (by have := (hCz.lt g hg).1; omega))) (by omega)⟩
end
end Go.Proofs.YtlghjjennhpjeaaGreatDoor

namespace Go.Proofs.YtlghjjennhpjeaaGreatDoor
open Go.RowKit Go.Deep

section
variable (bb bo cap : Nat) (l : List UInt8) (hl : l.length < 2 ^ 58) (hcap : l.length ≤ cap) (w : World) (hb : Byt w bb bo l) (hbb : bb < w.heap.size) (he : headE l = none) (ns : List (List UInt8)) (zs : List Nat) (hn : namesE l (le l 14 4) = .ok (ns, zs)) (hq : le l 18 4 = lengthS (le l 6 1) zs)
set_option maxHeartbeats 4000000 in
set_option maxRecDepth 100000 in
include hl hcap hb hbb he hn hq in
theorem parse_more (col : List UInt8) (a : Nat) (hf : framesE l (decide (le l 8 1 < le l 6 1)) (le l 10 4) (le l 18 4) ((totalS zs : Int) - ((le l 8 1 * lengthS (le l 6 1) zs : Nat) : Int)) (le l 18 4) (32 + le l 14 4 + 8) [] = .ok (col, a)) (hx : fixE l a magic2 = none) (hm : ¬ l.length ≤ a + 4) :
    Calls Tryz.prog 12 #[(.slice (some ⟨bb, bo, none⟩) l.length cap)] w (ParsePost l w) := by
  have ha : a ≤ l.length := framesE_le l _ _ _ _ _ _ _ (by
    obtain ⟨gs, _⟩ := namesE_ok hn
    have := sealE_room gs
    omega) hf
  have HE : Hid (parseE l = .error (9, a + 4)) := by
    show parseE l = _
    unfold parseE
    rw [he, hn]
    simp only
    rw [if_pos hq, hf]
    simp only
    rw [hx, show decide (l.length ≤ a + 4) = false from decide_eq_false hm]
    simp only [orE, mustE, Bool.false_eq_true, if_false]
  obtain ⟨g1, g2, g3⟩ := head_right l he
  have h32 : 32 ≤ l.length := by have := sealE_room g2; omega
  have hr := headR_none g3
  have hhead : ∀ sb w1, bb ≠ sb → ScR w1 sb (.slice (some ⟨bb, bo, none⟩) l.length cap) 0 none → Byt w1 bb bo l → bb < w1.heap.size →
      Calls Tryz.prog 28 #[.pointer (some ⟨sb, 0, none⟩)] w1 fun q w' => q = .returned (.agg (shardL (le l 6 1) (le l 7 1) (le l 8 1) (le l 10 4) (.slice none 0 0) (.slice none 0 0) (.slice none 0 0)).toArray) ∧ ScR w' sb (.slice (some ⟨bb, bo, none⟩) l.length cap) 0 none ∧ But w1.heap.size (· = sb) w1 w' := fun sb w1 hbs h3 h4 h5 => by
    have := head_ok sb bb bo cap hbs l (by omega) hcap w1 h3 h4 h5 g1 g2
    rw [g3] at this
    exact this
  obtain ⟨k, ek⟩ : ∃ k, le l 6 1 = k := ⟨_, rfl⟩
  obtain ⟨n, en⟩ : ∃ n, le l 7 1 = n := ⟨_, rfl⟩
  obtain ⟨i, ei⟩ : ∃ i, le l 8 1 = i := ⟨_, rfl⟩
  obtain ⟨ch, ech⟩ : ∃ ch, le l 10 4 = ch := ⟨_, rfl⟩
  obtain ⟨m, em⟩ : ∃ m, le l 14 4 = m := ⟨_, rfl⟩
  obtain ⟨ln, eln⟩ : ∃ ln, le l 18 4 = ln := ⟨_, rfl⟩
  have EM : Hid (le l 14 4 = m) := em
  have EL : Hid (le l 18 4 = ln) := eln
  simp only [ek, en, ei, ech] at hhead
  rw [em] at hn
  simp only [ek, ei, ech, em, eln] at hf
  rw [ek, eln] at hq
  simp only [ek, en, ei, ech, em, eln] at hr
  clear ek en ei ech em eln g1 g2 g3 he
  unfold shardL at hhead
  have hA : RowAt ((w.alloc (.cells (shardL 0 0 0 0 (.slice none 0 0) (.slice none 0 0) (.slice none 0 0)).toArray 41)).alloc (.cells (scanL (.slice (some ⟨bb, bo, none⟩) l.length cap) 0 0 0).toArray 81)) (w.heap.size + 1) (scanL (.slice (some ⟨bb, bo, none⟩) l.length cap) 0 0 0) 81 := by
    have := RowAt.made (w.alloc (.cells (shardL 0 0 0 0 (.slice none 0 0) (.slice none 0 0) (.slice none 0 0)).toArray 41)) (scanL (.slice (some ⟨bb, bo, none⟩) l.length cap) 0 0 0) 81
    simpa using this
  have hbe : But w.heap.size (fun _ => False) w ((w.alloc (.cells (shardL 0 0 0 0 (.slice none 0 0) (.slice none 0 0) (.slice none 0 0)).toArray 41)).alloc (.cells (scanL (.slice (some ⟨bb, bo, none⟩) l.length cap) 0 0 0).toArray 81)) := ((But.refl _ _ _).alloc (Nat.le_refl _) _).alloc (by simp) _
  have hR : RowAt ((w.alloc (.cells (shardL 0 0 0 0 (.slice none 0 0) (.slice none 0 0) (.slice none 0 0)).toArray 41)).alloc (.cells (scanL (.slice (some ⟨bb, bo, none⟩) l.length cap) 0 0 0).toArray 81)) w.heap.size (shardL 0 0 0 0 (.slice none 0 0) (.slice none 0 0) (.slice none 0 0)) 41 :=
    (RowAt.made w _ _).later (S := fun _ => False) (But.alloc (But.refl _ _ _) (Nat.le_refl _) _) (by simp) id
  have hsz : ((w.alloc (.cells (shardL 0 0 0 0 (.slice none 0 0) (.slice none 0 0) (.slice none 0 0)).toArray 41)).alloc (.cells (scanL (.slice (some ⟨bb, bo, none⟩) l.length cap) 0 0 0).toArray 81)).heap.size = w.heap.size + 2 := by simp
  have hS1 : ScR _ (w.heap.size + 1) (.slice (some ⟨bb, bo, none⟩) l.length cap) 0 none := ⟨hA, errs_none⟩
  have hb1 := hb.later hbe hbb id
  unfold shardL scanL at hS1 hb1 hR hbe hsz
  go_enter Tryz.func12, Tryz.ntmps12
  go_upto_region 2 with fail
  generalize (w.alloc (Obj.cells (List.toArray [Value.int .i64 ((0 : Nat) : Int), Value.int .i64 ((0 : Nat) : Int), Value.int .i64 ((0 : Nat) : Int), Value.int .i64 ((0 : Nat) : Int), Value.slice none 0 0, Value.slice none 0 0, Value.slice none 0 0]) 41)).alloc (Obj.cells (List.toArray [Value.slice (some ⟨bb, bo, none⟩) l.length cap, Value.int .i64 ((0 : Nat) : Int), Value.int .i64 ((0 : Nat) : Int), Value.int .i64 ((0 : Nat) : Int)]) 81) = w1 at hS1 hb1 hR hbe hsz ⊢
  go_upto_region 3 with (first | (go_at_call 28; refine (hhead (w.heap.size + 1) w1 (by omega) hS1 hb1 (by omega)).mono ?_; rintro q w2 ⟨rfl, hS2, hB2⟩))
  have hR2 := hR.later hB2 (by omega) (by omega)
  have hb2 := hb1.later hB2 (by omega) (by omega)
  have hsz2 := hB2.size
  have hX3 : ShX (w2.alloc (.cells (List.toArray [Value.int .i64 (k : Int), Value.int .i64 (n : Int), Value.int .i64 (i : Int), Value.int .i64 (ch : Int), Value.slice none 0 0, Value.slice none 0 0, Value.slice none 0 0]) 41)) w2.heap.size k n i ch (.slice none 0 0) (.slice none 0 0) (.slice none 0 0) := ⟨RowAt.made w2 _ _⟩
  have hbx : But w2.heap.size (fun _ => False) w2 (w2.alloc (.cells (List.toArray [Value.int .i64 (k : Int), Value.int .i64 (n : Int), Value.int .i64 (i : Int), Value.int .i64 (ch : Int), Value.slice none 0 0, Value.slice none 0 0, Value.slice none 0 0]) 41)) := But.alloc (But.refl _ _ _) (Nat.le_refl _) _
  have hS3 := hS2.later hbx hS2.lt id
  have hR3 := hR2.later hbx (by omega) id
  have hb3 := hb2.later hbx (by omega) id
  have hsz3 : (w2.alloc (.cells (List.toArray [Value.int .i64 (k : Int), Value.int .i64 (n : Int), Value.int .i64 (i : Int), Value.int .i64 (ch : Int), Value.slice none 0 0, Value.slice none 0 0, Value.slice none 0 0]) 41)).heap.size = w2.heap.size + 1 := by simp
  generalize w2.alloc (Obj.cells (List.toArray [Value.int .i64 (k : Int), Value.int .i64 (n : Int), Value.int .i64 (i : Int), Value.int .i64 (ch : Int), Value.slice none 0 0, Value.slice none 0 0, Value.slice none 0 0]) 41) = w3 at hX3 hbx hS3 hR3 hb3 hsz3 ⊢
  have hBB : Below w.heap.size w w3 := ((hbe.trans ((hB2.mono (by omega) (fun _ x => x)).below (fun k hk hs => by omega) |> But.of_below)).trans (hbx.mono (by omega) (fun _ x => x))).below (fun _ _ x => x)
  obtain ⟨xb, exb⟩ : ∃ xb, w2.heap.size = xb := ⟨_, rfl⟩
  rw [exb] at hX3 hsz3 ⊢
  have hxlt : w.heap.size + 2 ≤ xb := by omega
  clear hS2 hB2 hR2 hb2 hbx hsz2 hS1 hb1 hR hbe hsz hhead hA exb
  have KN := names_any (w.heap.size + 1) xb bb bo cap (by omega) (by omega) (by omega) l (by omega) hcap m (by omega) (by omega) k n i ch 0 w3 hS3 hX3 hb3 (by omega)
  unfold NamesPost at KN
  rw [hn] at KN
  simp only at KN
  have e2 := hS3.scn.c2
  simp only [eR] at e2
  obtain ⟨gs, gz, gl, gt, _⟩ := namesE_ok hn
  have hzz : ∀ j, zs.getD j 0 < 2 ^ 63 := fun j => by have := gz j; omega
  have HL : Hid (lengthS k zs = ln) := hq.symm
  clear hq
  have h40 : 32 + m + 8 ≤ l.length := sealE_room gs
  go_upto_region 10 with (first | (go_at_call 29; refine (num_ok (sb := w.heap.size + 1) (bb := bb) (bo := bo) (cap := cap) (l := l) (at_ := 0) _ _ 14 4 (by rfl) (by rfl) (by omega) (by omega) (by exact hS3) (by exact hb3) (by omega)).mono ?_; rintro q w' ⟨rfl, hw'⟩; obtain rfl := hw'.symm; rw [EM.out]) | (go_at_call 29; refine (num_ok (sb := w.heap.size + 1) (bb := bb) (bo := bo) (cap := cap) (l := l) (at_ := 0) _ _ 18 4 (by rfl) (by rfl) (by omega) (by omega) (by exact hS3) (by exact hb3) (by omega)).mono ?_; rintro q w' ⟨rfl, hw'⟩; obtain rfl := hw'.symm; rw [EL.out]) | (go_at_call 30; refine KN.mono ?_; clear KN; rintro q w4 ⟨rfl, hB4, vN, vS, J⟩; have z2 := J.sc.scn.c2; have z1 := J.sc.scn.c1; have y1 := RowAt.frozen J.sc.scn 1; simp only [eR] at z2 z1; have x0 := J.sh.row.cell (i := 0) rfl; have x5 := J.sh.row.cell (i := 5) rfl; have hs4 := hB4.size; have hR4 := hR3.later hB4 (by omega) (by omega); have hb4 := hb3.later hB4 (by omega) (by omega); have hH4 := hold_owns J.os; have hBz4 : Below w.heap.size w w4 := (But.of_below hBB |>.trans (hB4.mono (by omega) (fun _ x => x))).below (fun k hk x => by omega); clear hR3 hb3 hS3 hX3 hBB e2 hB4) | (go_at_call 32; refine (length_any _ k (by rfl) (by omega) (by omega) vS zs hzz (by omega) _ (by exact hH4)).mono ?_; rintro q w' ⟨rfl, hw'⟩; obtain rfl := hw'.symm; rw [HL.out]) | (go_at_call 31; refine (must_true _ _ _ _).mono ?_; rintro q w' ⟨rfl, hw'⟩; obtain rfl := hw'.symm))
  have hS6 : ScR (w4.setCell ⟨w.heap.size + 1, 1, none⟩ (.int .i64 ((32 + m + 8 : Nat) : Int))) (w.heap.size + 1) (.slice (some ⟨bb, bo, none⟩) l.length cap) (32 + m + 8) none := ⟨J.sc.scn.setAt _, J.sc.errs⟩
  have hB6 : But w4.heap.size (· = w.heap.size + 1) w4 (w4.setCell ⟨w.heap.size + 1, 1, none⟩ (.int .i64 ((32 + m + 8 : Nat) : Int))) := (But.refl w4.heap.size (· = w.heap.size + 1) w4).setCell (p := ⟨w.heap.size + 1, 1, none⟩) (.inr rfl) _
  rw [show ((32 + m + 8 : Nat) : Int) = 32 + (m : Int) + 8 by omega] at hS6 hB6
  generalize w4.setCell ⟨w.heap.size + 1, 1, none⟩ (.int .i64 (32 + (m : Int) + 8)) = w6 at hS6 hB6 ⊢
  have hX6 := J.sh.later hB6 J.sh.row.lt (by omega)
  have hO6 := owns_later J.os (w' := w6) (fun g hg => hB6.block g (J.os.lt g hg).2 (by have := (J.os.lt g hg).1; omega))
  have hN6 := owns_later J.on (w' := w6) (fun g hg => hB6.block g (J.on.lt g hg).2 (by have := (J.on.lt g hg).1; omega))
  have hR6 := hR4.later hB6 (by omega) (by omega)
  have hb6 := hb4.later hB6 (by omega) (by omega)
  have hBz6 : Below w.heap.size w w6 := (But.of_below hBz4 |>.trans (hB6.mono (by omega) (fun _ x => x))).below (fun k hk x => by omega)
  have hs6 := hB6.size
  have KF := frames_ok (w.heap.size + 1) xb bb bo cap (by omega) (by omega) (by omega) l (by omega) hcap k n i ch (32 + m + 8) (by omega) (by omega) (by omega) vN vS zs hzz (by omega) ln (by omega) w6 hX6 (hold_owns hO6) hb6 (by omega) hS6 (by omega) hl (by omega) (by omega)
  unfold FramesPost at KF
  rw [hf] at KF
  simp only at KF
  clear hB6 hR4 hBz4 hb4 hH4 z1 z2 y1 x0 x5 hX6
  go_upto_region 12 with (first | (go_at_call 33; refine KF.mono ?_; clear KF; rintro q w7 ⟨rfl, vC, Q⟩; have hb7 := hb6.later Q.but (by omega) (by omega); have hs7 := Q.but.size; have hR7 := hR6.later Q.but (by omega) (by omega); have hB7 : Below w.heap.size w w7 := (But.of_below hBz6 |>.trans (Q.but.mono hBz6.size (fun _ x => x))).below (fun k hk x => by omega)) | (go_at_call 34; refine (fixed_r (sb := w.heap.size + 1) (bb := bb) (bo := bo) (cap := cap) (l := l) (at_ := a) (r := none) magic2 (by decide) (by omega) (by omega) (by omega) (by exact Q.sc) (by exact hb7) (by omega)).mono ?_; rintro q w8 ⟨rfl, hS8, hB8⟩; rw [hx] at hS8; have z2 := hS8.scn.c2; have z1 := hS8.scn.c1; have z3 := hS8.scn.c3; simp only [orE, eR, pR] at z1 z2 z3; have hR8 := hR7.later hB8 (by omega) (by omega); have hs8 := hB8.size; have hB8' : Below w.heap.size w w8 := (But.of_below hB7 |>.trans (hB8.mono hB7.size (fun _ x => x))).below (fun k hk x => by omega)))
  have hm2 : ¬ ((l.length : Int) ≤ (a : Int) + 4) := by omega
  have hm3 : decide ((l.length : Int) ≤ (a : Int) + 4) = false := decide_eq_false hm2
  have hwr : IntKind.i64.wrap ((a : Int) + 4) = (a : Int) + 4 := IntWalk.i64_in _ (by omega)
  refine wp_region_tail 14 mixed (by kernel_rfl) ?_
  simp only [List.take_succ_cons, List.take_zero, List.drop_succ_cons, List.drop_zero]
  repeat still_step
  refine wpStill_nil ?_
  have hS8' : ScR w8.drew (w.heap.size + 1) (.slice (some ⟨bb, bo, none⟩) l.length cap) a none := hS8.heap rfl
  go_wp2_with (first | (go_at_call 31; refine (must_r (sb := w.heap.size + 1) (at_ := a) (r := none) _ _ _ 9 (a + 4) (by rfl) (by simp) (by decide) (by exact hS8')).mono ?_; rintro q w9 ⟨rfl, hS90, hB9⟩; have hS9 := hS90.ok (ok' := false) (by rfl); have z2 := hS9.scn.c2; have z3 := hS9.scn.c3; simp only [orE, mustE, eR, pR, Bool.false_eq_true, if_false] at z2 z3))
  have hRz := (show RowAt w8.drew w.heap.size (shardL 0 0 0 0 (.slice none 0 0) (.slice none 0 0) (.slice none 0 0)) 41 from hR8).later hB9 (by show w.heap.size < w8.heap.size; omega) (by omega)
  have hBz : Below w.heap.size w w9 := (But.of_below hB8'.drew |>.trans (hB9.mono (by show w.heap.size ≤ w8.heap.size; omega) (fun _ x => x))).below (fun k hk x => by omega)
  have d0 := hRz.cell (i := 0) rfl
  have f0 := hRz.frozen 0
  have d1 := hRz.cell (i := 1) rfl
  have f1 := hRz.frozen 1
  have d2 := hRz.cell (i := 2) rfl
  have f2 := hRz.frozen 2
  have d3 := hRz.cell (i := 3) rfl
  have f3 := hRz.frozen 3
  have d4 := hRz.cell (i := 4) rfl
  have f4 := hRz.frozen 4
  have d5 := hRz.cell (i := 5) rfl
  have f5 := hRz.frozen 5
  have d6 := hRz.cell (i := 6) rfl
  have f6 := hRz.frozen 6
  go_region
  go_wp2
  have hF := RowAt.drew (((((((hRz.set 0 (.int .i64 0)).set 1 (.int .i64 0)).set 2 (.int .i64 0)).set 3 (.int .i64 0)).set 4 (.slice none 0 0)).set 5 (.slice none 0 0)).set 6 (.slice none 0 0))
  have hG := (((((((hBz.setCell (p := ⟨w.heap.size, 0, none⟩) (Nat.le_refl _) (.int .i64 0)).setCell (p := ⟨w.heap.size, 1, none⟩) (Nat.le_refl _) (.int .i64 0)).setCell (p := ⟨w.heap.size, 2, none⟩) (Nat.le_refl _) (.int .i64 0)).setCell (p := ⟨w.heap.size, 3, none⟩) (Nat.le_refl _) (.int .i64 0)).setCell (p := ⟨w.heap.size, 4, none⟩) (Nat.le_refl _) (.slice none 0 0)).setCell (p := ⟨w.heap.size, 5, none⟩) (Nat.le_refl _) (.slice none 0 0)).setCell (p := ⟨w.heap.size, 6, none⟩) (Nat.le_refl _) (.slice none 0 0)).drew
  have hF2 : _ = some (Obj.cells _ 41 (0, 0)) := hF
  refine bodyPost_ret (results_cell_2 (p := 2) (u := 3) (t := 4) rfl _ _ w.heap.size 41 _ (0, 0) _ (by rfl) hF2 Tryz.underlying41 rfl (by kernel_rfl)) rfl ?_
  refine ⟨hG, ?_⟩
  rw [HE.out]
  rfl

end

/-- All of the document's Parse. -/
theorem parse_any (bb bo cap : Nat) (l : List UInt8) (hl : l.length < 2 ^ 58) (hcap : l.length ≤ cap) (w : World) (hb : Byt w bb bo l) (hbb : bb < w.heap.size) :
    Calls Tryz.prog 12 #[(.slice (some ⟨bb, bo, none⟩) l.length cap)] w (ParsePost l w) := by
  cases he : headE l with
  | some e => exact parse_head bb bo cap l hl hcap w hb hbb e he
  | none =>
    cases hn : namesE l (le l 14 4) with
    | error e => exact parse_names bb bo cap l hl hcap w hb hbb he e hn
    | ok x =>
      obtain ⟨ns, zs⟩ := x
      by_cases hq : le l 18 4 = lengthS (le l 6 1) zs
      · cases hf : framesE l (decide (le l 8 1 < le l 6 1)) (le l 10 4) (le l 18 4) ((totalS zs : Int) - ((le l 8 1 * lengthS (le l 6 1) zs : Nat) : Int)) (le l 18 4) (32 + le l 14 4 + 8) [] with
        | error e => exact parse_frames bb bo cap l hl hcap w hb hbb he ns zs hn hq e hf
        | ok y =>
          obtain ⟨col, a⟩ := y
          cases hx : fixE l a magic2 with
          | some e => exact parse_tail bb bo cap l hl hcap w hb hbb he ns zs hn hq col a hf e hx
          | none =>
            by_cases hm : l.length ≤ a + 4
            · exact parse_all bb bo cap l hl hcap w hb hbb he ns zs hn hq col a hf hx hm
            · exact parse_more bb bo cap l hl hcap w hb hbb he ns zs hn hq col a hf hx hm
      · exact parse_long bb bo cap l hl hcap w hb hbb he ns zs hn hq
end Go.Proofs.YtlghjjennhpjeaaGreatDoor

/-
  What the program's faults are made by; what its numbers are read by.
  How the program reads a shard: what it keeps (Reading), and the small calls on it: size, whole, begins.
  How the program reads a shard: what a piece begins with (begins).
-/
import Derived.Test.YtlghjjennhpjeaaGreatDoorErA
import Derived.Test.YtlghjjennhpjeaaGreatDoorScanF
import Derived.BigQuiet
import Derived.Test.YtlghjjennhpjeaaGreatDoorEnC
namespace Go.Proofs.YtlghjjennhpjeaaGreatDoor
open Go.RowKit Go.Deep

theorem Chain.under {w w' : World} (hb : Below w.heap.size w w') : ∀ {d : Nat} {v : Value} {e p : Nat}, Chain w d v e p → Chain w' d v e p
  | 0, _, _, _, ⟨b, e1, h1⟩ => ⟨b, e1, h1.later (S := fun _ => False) (.of_below hb) h1.lt id⟩
  | _ + 1, _, _, _, ⟨b, s, c, e1, h1, h2⟩ => ⟨b, s, c, e1, h1.later (S := fun _ => False) (.of_below hb) h1.lt id, Chain.under hb h2⟩
/-- What is answered is a fault, wrapped so many times. -/
def Faulty (w : World) (d e p : Nat) (r : Ending) (w' : World) : Prop := ∃ v, r = .returned v ∧ Chain w' d v e p ∧ Below w.heap.size w w'

set_option maxHeartbeats 400000 in
set_option maxRecDepth 100000 in
theorem at_any (E P : Int) (e p : Nat) (hE : E = e) (hP : P = p) (w : World) :
    Calls Tryz.prog 49 #[.int .i64 E, .int .i64 P] w fun r w' => Faulty w 0 e p r w' := by
  subst hE hP
  have hr := RowAt.made w [.int .i64 (e : Int), .int .i64 (p : Int)] 78
  have hB := (Below.refl w.heap.size w).alloc (Nat.le_refl _) (.cells #[.int .i64 (e : Int), .int .i64 (p : Int)] 78)
  go_enter Tryz.func49, Tryz.ntmps49
  go_wp2
  go_ret
  exact ⟨_, rfl, ⟨_, rfl, hr⟩, hB⟩
set_option maxHeartbeats 400000 in
set_option maxRecDepth 100000 in
theorem within_nil (s : ByteArray) (w : World) :
    Calls Tryz.prog 24 #[.string s, .nilIface] w fun r w' => r = .returned .nilIface ∧ w' = w := by
  go_enter Tryz.func24, Tryz.ntmps24
  go_wp2
  go_ret
  exact ⟨rfl, rfl⟩
set_option maxHeartbeats 400000 in
set_option maxRecDepth 100000 in
theorem within_any (s : ByteArray) (d : Nat) (v : Value) (e p : Nat) (w : World) (h : Chain w d v e p) :
    Calls Tryz.prog 24 #[.string s, v] w fun r w' => Faulty w (d + 1) e p r w' := by
  have hr := RowAt.made w [.string s, v] 118
  have hB := (Below.refl w.heap.size w).alloc (Nat.le_refl _) (.cells #[.string s, v] 118)
  have hc := h.under hB
  obtain ⟨t, x, rfl⟩ := h.iface
  clear h
  go_enter Tryz.func24, Tryz.ntmps24
  go_wp2
  go_ret
  exact ⟨_, rfl, ⟨_, _, _, rfl, hr, hc⟩, hB⟩

theorem le_succ (l : List UInt8) : ∀ (n a : Nat), le l a (n + 1) = le l a n + 256 ^ n * bAt l (a + n)
  | 0, a => by simp [le]
  | n + 1, a => by
    have h := le_succ l n (a + 1)
    show bAt l a + 256 * le l (a + 1) (n + 1) = (bAt l a + 256 * le l (a + 1) n) + _
    rw [h, show a + 1 + n = a + (n + 1) by omega, Nat.pow_succ, Nat.mul_add]
    have : 256 * (256 ^ n * bAt l (a + (n + 1))) = 256 ^ n * 256 * bAt l (a + (n + 1)) := by rw [← Nat.mul_assoc, Nat.mul_comm 256]
    omega
theorem u64_or_lt {a b : Nat} (ha : a < 2 ^ 64) (hb : b < 2 ^ 64) : bits .or .u64 (a : Int) (b : Int) = ((a ||| b : Nat) : Int) := by
  show IntKind.u64.wrap ((BitVec.ofInt 64 (a : Int) ||| BitVec.ofInt 64 (b : Int)).toNat : Int) = _
  rw [BitVec.toNat_or, ofInt_u64' a ha, ofInt_u64' b hb, wrap_u64_lt _ (Nat.or_lt_two_pow ha hb)]
theorem put_byte {x y c : Nat} (hc : c < 8) (hx : x < 256 ^ c) (hy : y < 256) : bits .or .u64 (x : Int) (IntKind.u64.wrap ((y : Int) * 2 ^ (8 * c))) = ((x + 256 ^ c * y : Nat) : Int) ∧ x + 256 ^ c * y < 256 ^ (c + 1) := by
  have e : (256 : Nat) ^ c = 2 ^ (8 * c) := by rw [Nat.pow_mul]
  have h56 : 2 ^ (8 * c) ≤ 2 ^ 56 := Nat.pow_le_pow_right (by omega) (by omega)
  have hp : y * 2 ^ (8 * c) ≤ 255 * 2 ^ 56 := Nat.mul_le_mul (by omega) h56
  have ei : (y : Int) * 2 ^ (8 * c) = ((y * 2 ^ (8 * c) : Nat) : Int) := by simp
  rw [e] at hx ⊢
  have hsum : x + 2 ^ (8 * c) * y < 256 ^ (c + 1) := by
    have h1 : 2 ^ (8 * c) * y ≤ 2 ^ (8 * c) * 255 := Nat.mul_le_mul_left _ (by omega)
    have h2 : 256 ^ (c + 1) = 2 ^ (8 * c) * 256 := by rw [Nat.pow_succ, e]
    omega
  refine ⟨?_, hsum⟩
  rw [ei, wrap_u64_lt _ (by omega), u64_or_lt (by omega) (by omega)]
  have h3 := Nat.shiftLeft_add_eq_or_of_lt hx y
  rw [Nat.shiftLeft_eq] at h3
  rw [Nat.or_comm, ← h3, Nat.mul_comm y, Nat.add_comm]

set_option maxHeartbeats 1000000 in
set_option maxRecDepth 100000 in
theorem readNumber_any (bb bo n cap : Nat) (l : List UInt8) (hn : l.length = n) (hn8 : n ≤ 8) (w : World) (hb : Byt w bb bo l) :
    Calls Tryz.prog 139 #[.slice (some ⟨bb, bo, none⟩) n cap] w fun r w' => r = .returned (.int .u64 (le l 0 n : Nat)) ∧ w' = w := by
  go_enter Tryz.func139, Tryz.ntmps139
  go_wp2
  go_loop [3, 8] (fun vn vi => ∃ c x : Nat, c ≤ n ∧ vi = .int .i64 (c : Int) ∧ vn = .int .u64 (x : Int) ∧ x < 256 ^ c ∧ Hid (x = le l 0 c)) (fun _ i => n - (intOf i).toNat)
  case atStart => exact ⟨0, 0, by omega, rfl, rfl, by simp, rfl⟩
  case round =>
    obtain ⟨c, x, hc, rfl, rfl, hx, H⟩ := hrel
    by_cases hlt : c < n
    · have hcell := hb c (by omega)
      have hy := bAt_lt l c
      have H2 : Hid _ := le_succ l c 0
      rw [Nat.zero_add] at H2
      obtain ⟨y, ey⟩ : ∃ y, bAt l c = y := ⟨_, rfl⟩
      rw [ey] at hcell hy H2
      obtain ⟨h3, h4⟩ := put_byte (show c < 8 by omega) hx hy
      have H4 : Hid (x + 256 ^ c * y < 256 ^ (c + 1)) := h4
      have H5 : Hid (x + 256 ^ c * y = le l 0 (c + 1)) := by
        show _ = _
        rw [H2.out, H.out]
      clear ey hb h4 hx H H2
      obtain ⟨z, ez⟩ : ∃ z, x + 256 ^ c * y = z := ⟨_, rfl⟩
      rw [ez] at h3 H4 H5
      clear ez
      go_wp2
      go_round
      case rel => exact ⟨c + 1, z, by omega, by go_num, rfl, H4.out, H5⟩
      case measure => simp [intOf]; omega
    · obtain rfl : c = n := by omega
      clear hb hx
      go_wp2
      go_ret
      exact ⟨ret_u64 (by rw [H.out]), rfl⟩
end Go.Proofs.YtlghjjennhpjeaaGreatDoor

namespace Go.Proofs.YtlghjjennhpjeaaGreatDoor
open Go.RowKit Go.Deep

/-- What a Reading keeps. -/
structure Rd where
  k : Nat
  n : Nat
  i : Nat
  c : Nat
  vN : Value
  vS : Value
  vC : Value
  m : Nat
  ln : Nat
  tt : Nat
  nx : Nat
  pl : Nat
  vT : Value
  vF : Value
def Rd.cells (r : Rd) : List Value := [.int .i64 (r.k : Int), .int .i64 (r.n : Int), .int .i64 (r.i : Int), .int .i64 (r.c : Int), r.vN, r.vS, r.vC, .int .i64 (r.m : Int), .int .i64 (r.ln : Int), .int .i64 (r.tt : Int), .int .i64 (r.nx : Int), .int .i64 (r.pl : Int), r.vT, r.vF]
def RdAt (w : World) (rb : Nat) (r : Rd) : Prop := RowAt w rb r.cells 102

/-- How many bytes the next piece has. -/
def sizeR (nx c m ln cl : Nat) : Nat := if nx = 0 then 32 else if nx = 1 then m + 8 else if nx = 2 then min c (ln - cl) + 8 else 4

set_option maxHeartbeats 2000000 in
set_option maxRecDepth 100000 in
theorem size_any (rb : Nat) (r : Rd) (bc : Option Addr) (cl cc : Nat) (hC : r.vC = .slice bc cl cc) (hm : r.m ≤ 1000000) (hc : r.c ≤ 1000000) (hl : r.ln ≤ 1000000) (hcl : cl ≤ r.ln) (hnx : r.nx ≤ 3) (w : World) (h : RdAt w rb r) :
    Calls Tryz.prog 118 #[.pointer (some ⟨rb, 0, none⟩)] w fun q w' => q = .returned (.int .i64 (sizeR r.nx r.c r.m r.ln cl : Nat)) ∧ ∃ j, w' = w.drewN j := by
  obtain ⟨k, n, i, c, vN, vS, vC, m, ln, tt, nx, pl, vT, vF⟩ := r
  simp only at hC hm hc hl hcl hnx ⊢
  subst hC
  unfold RdAt Rd.cells at h
  have c3 := h.cell (i := 3) rfl
  have c6 := h.cell (i := 6) rfl
  have c7 := h.cell (i := 7) rfl
  have c8 := h.cell (i := 8) rfl
  have c10 := h.cell (i := 10) rfl
  simp only at c3 c6 c7 c8 c10
  clear h
  have hc4 : nx = 0 ∨ nx = 1 ∨ nx = 2 ∨ nx = 3 := by omega
  rcases hc4 with rfl | rfl | rfl | rfl
  · go_enter Tryz.func118, Tryz.ntmps118
    go_wp2
    go_ret
    exact ⟨rfl, 0, rfl⟩
  · go_enter Tryz.func118, Tryz.ntmps118
    go_wp2
    go_ret
    exact ⟨rfl, 0, rfl⟩
  · have HS : Hid (sizeR 2 c m ln cl = min c (ln - cl) + 8) := rfl
    rcases Nat.lt_or_ge (ln - cl) c with q | q
    · have q' : (ln : Int) - (cl : Int) < (c : Int) := by omega
      have HM : Hid ((min c (ln - cl) + 8 : Nat) = ln - cl + 8) := by show _ = _; omega
      go_enter Tryz.func118, Tryz.ntmps118
      go_wp2_with fail
      go_big_quiet (fail)
      go_wp2
      go_ret
      exact ⟨ret_i64 (by rw [HS.out, HM.out]; omega), _, rfl⟩
    · have q' : (c : Int) ≤ (ln : Int) - (cl : Int) := by omega
      have HM : Hid ((min c (ln - cl) + 8 : Nat) = c + 8) := by show _ = _; omega
      go_enter Tryz.func118, Tryz.ntmps118
      go_wp2_with fail
      go_big_quiet (fail)
      go_wp2
      go_ret
      exact ⟨ret_i64 (by rw [HS.out, HM.out]; omega), _, rfl⟩
  · go_enter Tryz.func118, Tryz.ntmps118
    go_wp2
    go_ret
    exact ⟨rfl, 0, rfl⟩

theorem RowAt.drewN {w : World} {b : Nat} {cs : List Value} {t : TypeId} (h : RowAt w b cs t) (j : Nat) : RowAt (w.drewN j) b cs t := h
section
variable (rb : Nat) (r : Rd) (bc : Option Addr) (cl cc : Nat) (hC : r.vC = .slice bc cl cc) (hm : r.m ≤ 1000000) (hc : r.c ≤ 1000000) (hl : r.ln ≤ 1000000) (hcl : cl ≤ r.ln) (hnx : r.nx ≤ 3) (bt : Option Addr) (tl ct : Nat) (hT : r.vT = .slice bt tl ct) (htl : tl ≤ 1000000000) (hpl : r.pl ≤ 1000000000000) (w : World) (h : RdAt w rb r)
set_option maxHeartbeats 2000000 in
set_option maxRecDepth 100000 in
include hC hm hc hl hcl hnx hT h in
theorem whole_yes (hs : sizeR r.nx r.c r.m r.ln cl ≤ tl) :
    Calls Tryz.prog 136 #[.pointer (some ⟨rb, 0, none⟩)] w fun q w' => q = .returned .nilIface ∧ ∃ j, w' = w.drewN j := by
  have K : ∀ j, Calls Tryz.prog 118 #[.pointer (some ⟨rb, 0, none⟩)] (w.drewN j) fun q w' => q = .returned (.int .i64 (sizeR r.nx r.c r.m r.ln cl : Nat)) ∧ ∃ n, w' = w.drewN n := fun j =>
    (size_any rb r bc cl cc hC hm hc hl hcl hnx (w.drewN j) (RowAt.drewN h j)).mono fun q w' x => ⟨x.1, by
      obtain ⟨i, hi⟩ := x.2
      exact ⟨j + i, by rw [hi]; simp [World.drewN, Nat.add_assoc]⟩⟩
  obtain ⟨z, ez⟩ : ∃ z, sizeR r.nx r.c r.m r.ln cl = z := ⟨_, rfl⟩
  simp only [ez] at K hs
  have c12 : w.cell? ⟨rb, 12, none⟩ = some (.slice bt tl ct) := by rw [← hT]; exact RowAt.cell h rfl
  have hs' : decide ((tl : Int) < (z : Int)) = false := by simp; omega
  have hs2 : (z : Int) ≤ (tl : Int) := by omega
  clear ez h hC hT
  go_enter Tryz.func136, Tryz.ntmps136
  go_wp2_with fail
  go_big_quiet (first | (go_at_call 118; exact (K _).mono (fun _ _ h => ⟨h.1, h.2⟩)))
  go_wp2
  go_ret
  exact ⟨rfl, _, rfl⟩
set_option maxHeartbeats 2000000 in
set_option maxRecDepth 100000 in
include hC hm hc hl hcl hnx hT htl hpl h in
theorem whole_no (hs : tl < sizeR r.nx r.c r.m r.ln cl) :
    Calls Tryz.prog 136 #[.pointer (some ⟨rb, 0, none⟩)] w fun q w' => Faulty w 0 4 (r.pl + tl) q w' := by
  have K : ∀ j, Calls Tryz.prog 118 #[.pointer (some ⟨rb, 0, none⟩)] (w.drewN j) fun q w' => q = .returned (.int .i64 (sizeR r.nx r.c r.m r.ln cl : Nat)) ∧ ∃ n, w' = w.drewN n := fun j =>
    (size_any rb r bc cl cc hC hm hc hl hcl hnx (w.drewN j) (RowAt.drewN h j)).mono fun q w' x => ⟨x.1, by
      obtain ⟨i, hi⟩ := x.2
      exact ⟨j + i, by rw [hi]; simp [World.drewN, Nat.add_assoc]⟩⟩
  obtain ⟨z, ez⟩ : ∃ z, sizeR r.nx r.c r.m r.ln cl = z := ⟨_, rfl⟩
  simp only [ez] at K hs
  have c12 : w.cell? ⟨rb, 12, none⟩ = some (.slice bt tl ct) := by rw [← hT]; exact RowAt.cell h rfl
  have c11 : w.cell? ⟨rb, 11, none⟩ = some (.int .i64 (r.pl : Int)) := RowAt.cell h rfl
  have hs' : decide ((tl : Int) < (z : Int)) = true := by simp; omega
  have hs2 : (tl : Int) < (z : Int) := by omega
  obtain ⟨pl, epl⟩ : ∃ pl, r.pl = pl := ⟨_, rfl⟩
  rw [epl] at c11 hpl ⊢
  clear ez h hC hT epl
  go_enter Tryz.func136, Tryz.ntmps136
  go_wp2_with fail
  go_big_quiet (first | (go_at_call 118; exact (K _).mono (fun _ _ h => ⟨h.1, h.2⟩)))
  go_wp2_with fail
  have hwr : IntKind.i64.wrap ((pl : Int) + (tl : Int)) = (pl : Int) + (tl : Int) := IntWalk.i64_in _ (by omega)
  refine wp_region_tail 10 mixed (by kernel_rfl) ?_
  simp only [List.take_succ_cons, List.take_zero, List.drop_succ_cons, List.drop_zero]
  repeat still_step
  refine wpStill_nil ?_
  go_wp2_with (first | (go_at_call 49; refine (at_any _ _ 4 (pl + tl) (by rfl) (by simp) _).mono ?_; rintro q w2 ⟨v, rfl, h1, h2⟩))
  go_ret
  refine ⟨_, rfl, h1, ?_⟩
  exact ⟨h2.os, h2.tape, h2.output, h2.size, h2.block⟩
end
end Go.Proofs.YtlghjjennhpjeaaGreatDoor

namespace Go.Proofs.YtlghjjennhpjeaaGreatDoor
open Go.RowKit Go.Deep

/-- The first byte that is there and is not the word's. -/
def begE (l ws : List UInt8) : Option Nat := (List.range (min ws.length l.length)).find? fun i => decide (bAt l i ≠ (ws.getD i 0).toNat)
def Begins (w : World) (l ws : List UInt8) (pl : Nat) (q : Ending) (w' : World) : Prop :=
  match begE l ws with
  | none => q = .returned .nilIface ∧ ∃ j, w' = w.drewN j
  | some i => Faulty w 0 5 (pl + i) q w'
theorem begE_some {l ws : List UInt8} {c : Nat} (hc : c < min ws.length l.length) (h : ∀ i, i < c → bAt l i = (ws.getD i 0).toNat) (hne : bAt l c ≠ (ws.getD c 0).toNat) : begE l ws = some c := by
  unfold begE
  rw [List.find?_range_eq_some]
  exact ⟨by simpa using hne, by simpa using hc, fun j hj => by simpa using h j hj⟩
theorem begE_none {l ws : List UInt8} (h : ∀ i, i < min ws.length l.length → bAt l i = (ws.getD i 0).toNat) : begE l ws = none := by
  unfold begE
  rw [List.find?_eq_none]
  intro i hi
  have := h i (by simpa using hi)
  simpa using this
theorem Faulty.of_drewN {w w' : World} {j d e p : Nat} {q : Ending} (h : Faulty (w.drewN j) d e p q w') : Faulty w d e p q w' := by
  obtain ⟨v, h1, h2, h3⟩ := h
  exact ⟨v, h1, h2, ⟨h3.os, h3.tape, h3.output, h3.size, h3.block⟩⟩

set_option maxHeartbeats 4000000 in
set_option maxRecDepth 100000 in
theorem begins_any (rb : Nat) (r : Rd) (l ws : List UInt8) (hw : ws.length ≤ 100) (hl : l.length ≤ 1000000000) (hpl : r.pl ≤ 1000000000000) (w : World) (h : RdAt w rb r) (hT : Lies w r.vT (u8V l)) :
    Calls Tryz.prog 130 #[.pointer (some ⟨rb, 0, none⟩), .string ⟨ws.toArray⟩] w fun q w' => Begins w l ws r.pl q w' := by
  obtain ⟨bt, ct, ev, hct, hc⟩ := hT
  rw [u8V_length] at ev hct
  have c12 : w.cell? ⟨rb, 12, none⟩ = some (.slice bt l.length ct) := by rw [← ev]; exact RowAt.cell h rfl
  have c11 : w.cell? ⟨rb, 11, none⟩ = some (.int .i64 (r.pl : Int)) := RowAt.cell h rfl
  obtain ⟨pl, epl⟩ : ∃ pl, r.pl = pl := ⟨_, rfl⟩
  rw [epl] at c11 hpl ⊢
  have hsz := ba_size ws
  clear h ev epl
  have idx := index_str ws
  rcases Nat.lt_or_ge l.length ws.length with q0 | q0
  all_goals
    first | (have EM : Hid (min ws.length l.length = l.length) := (show _ = _ by omega)) | (have EM : Hid (min ws.length l.length = ws.length) := (show _ = _ by omega))
    go_enter Tryz.func130, Tryz.ntmps130
    go_wp2
    go_loopw [14] (fun vi wr => ∃ c j : Nat, c ≤ min ws.length l.length ∧ vi = .int .i64 (c : Int) ∧ wr = w.drewN j ∧ Hid (∀ i, i < c → bAt l i = (ws.getD i 0).toNat)) (fun i _ => min ws.length l.length - (intOf i).toNat)
    case atStart => exact ⟨0, 0, by omega, rfl, rfl, fun i hi => absurd hi (by omega)⟩
    case round =>
      obtain ⟨c, j, hcm, rfl, rfl, H⟩ := hrel
      by_cases hlt : c < min ws.length l.length
      · obtain ⟨b, off, rfl, hcell⟩ := hc c _ (u8V_get (by omega))
        have hy := bAt_lt l c
        have hz : (ws.getD c 0).toNat < 256 := UInt8.toNat_lt _
        have hix := idx c (by omega)
        obtain ⟨y, ey⟩ : ∃ y, bAt l c = y := ⟨_, rfl⟩
        obtain ⟨z, ez⟩ : ∃ z, (ws.getD c 0).toNat = z := ⟨_, rfl⟩
        rw [ey] at hcell hy
        rw [ez] at hix hz
        have EY : Hid (bAt l c = y) := ey
        have EZ : Hid ((ws.getD c 0).toNat = z) := ez
        clear ey ez hc idx
        by_cases q : y = z
        · subst q
          go_wp2_with fail
          go_big_quiet (fail)
          go_wp2
          go_roundw
          case rel =>
            refine ⟨c + 1, _, by omega, by go_num, rfl, fun i hi => ?_⟩
            rcases Nat.lt_or_ge i c with h1 | h1
            · exact H.out i h1
            · obtain rfl : i = c := by omega
              rw [EY.out, EZ.out]
          case measure => simp [intOf]; omega
        · have q' : ((y : Int) == (z : Int)) = false := by simp; omega
          have q2 : ((y : Int) != (z : Int)) = true := by simp; omega
          have HB : Hid (begE l ws = some c) := begE_some (by rw [EM.out]; omega) H.out (by rw [EY.out, EZ.out]; exact q)
          have hwr : IntKind.i64.wrap ((pl : Int) + (c : Int)) = (pl : Int) + (c : Int) := IntWalk.i64_in _ (by omega)
          go_wp2_with fail
          go_big_quiet (fail)
          go_wp2_with (first | (go_at_call 49; refine (at_any _ _ 5 (pl + c) (by rfl) (by simp) _).mono ?_; rintro q w2 ⟨v, rfl, g1, g2⟩))
          go_ret
          unfold Begins
          rw [HB.out]
          exact Faulty.of_drewN ⟨_, rfl, g1, g2⟩
      · have HB : Hid (begE l ws = none) := begE_none (fun i hi => H.out i (by rw [EM.out] at hi; omega))
        clear hc idx
        go_wp2
        go_ret
        unfold Begins
        rw [HB.out]
        exact ⟨rfl, _, rfl⟩
end Go.Proofs.YtlghjjennhpjeaaGreatDoor

/-
  archive.together.
-/
namespace Go.Proofs.YtlghjjennhpjeaaGreatDoor
open Go.RowKit Go.Deep

/-- Shards as data, where they lie. -/
structure Sds (w : World) (bo : Option Addr) (n : Nat) (sh : Nat → Shd) (vN vS vC : Nat → Value) : Prop where
  cells : SC w bo n (fun i => shQ (sh i) (vN i) (vS i) (vC i))
  nm : ∀ i, i < n → Lies w (vN i) (nameV (sh i).names) ∧ (sh i).names.length ≤ 1048576
  sz : ∀ i, i < n → Lies w (vS i) (natV (sh i).sizes) ∧ (sh i).sizes.length ≤ 1048576
  cl : ∀ i, i < n → Lies w (vC i) (u8V (sh i).col)
  kn : ∀ i, i < n → (sh i).k ≤ 1048576
theorem Lies.one {w : World} {v : Value} {xs : List Value} (h : Lies w v xs) : v.oneCell' = true := by
  obtain ⟨ba, cap, rfl, _⟩ := h
  rfl
theorem Lies.belB {w w' : World} {v : Value} {xs : List Value} {B : Nat} (h : Lies w v xs) (hb : Below B w w') (hB : w.heap.size ≤ B) : Lies w' v xs := h.below (hb.mono hB)
theorem Sds.below {w w' : World} {bo : Option Addr} {n B : Nat} {sh : Nat → Shd} {vN vS vC : Nat → Value} (h : Sds w bo n sh vN vS vC) (hb : Below B w w') (hB : w.heap.size ≤ B) : Sds w' bo n sh vN vS vC :=
  ⟨h.cells.below hb hB, fun i hi => ⟨(h.nm i hi).1.belB hb hB, (h.nm i hi).2⟩, fun i hi => ⟨(h.sz i hi).1.belB hb hB, (h.sz i hi).2⟩, fun i hi => (h.cl i hi).belB hb hB, h.kn⟩
def AllOne (n : Nat) (sh : Nat → Shd) : Prop := ∀ i, i < n → oneA (sh 0) (sh i) = true
def Dup (n : Nat) (sh : Nat → Shd) : Prop := ∃ t, t + 1 < n ∧ (sh (t + 1)).i = (sh t).i
/-- What is wrong, but for the columns. -/
def TogE (n : Nat) (sh : Nat → Shd) (e : Nat) : Prop := (e = 10 ∧ ¬ AllOne n sh) ∨ (e = 11 ∧ AllOne n sh ∧ Dup n sh) ∨ (e = 12 ∧ AllOne n sh ∧ ¬ Dup n sh ∧ (n = 0 ∨ n < (sh 0).k)) ∨ (e = 0 ∧ AllOne n sh ∧ ¬ Dup n sh ∧ 0 < n ∧ (sh 0).k ≤ n)
def TogPost (n : Nat) (sh : Nat → Shd) (w : World) (r : Ending) (w' : World) : Prop := Below w.heap.size w w' ∧ ∃ e v, TogE n sh e ∧ r = .returned v ∧ (e = 0 → v = .nilIface) ∧ (e ≠ 0 → ∃ p, Chain w' 0 v e p)

set_option maxHeartbeats 4000000 in
set_option maxRecDepth 100000 in
theorem together_any (n cap : Nat) (bo : Option Addr) (sh : Nat → Shd) (vN vS vC : Nat → Value) (w : World) (hn : n ≤ 1048576) (H : Sds w bo n sh vN vS vC) :
    Calls Tryz.prog 23 #[.slice bo n cap] w fun r w' => TogPost n sh w r w' := by
  go_enter Tryz.func23, Tryz.ntmps23
  go_wp2
  go_loopw [3, 4, 8] (fun _ _ vi wr => ∃ j : Nat, j ≤ n ∧ vi = .int .i64 (j : Int) ∧ Below w.heap.size w wr ∧ AllOne j sh) (fun _ _ vi _ => n - (intOf vi).toNat)
  case atStart => exact ⟨0, by omega, rfl, Below.refl _ _, fun i hi => absurd hi (by omega)⟩
  case round =>
    obtain ⟨j, hj, rfl, hb, hall⟩ := hrel
    have Hr := H.below hb (Nat.le_refl _)
    by_cases hlt : j < n
    · have hlt' : (j : Int) < (n : Int) := by omega
      have h0n : (0 : Int) < (n : Int) := by omega
      obtain ⟨b, o, rfl, hbl, hcell⟩ := Hr.cells (by omega)
      have rj := hcell j hlt
      have r0 := hcell 0 (by omega)
      have tN := run_one _ (Hr.nm j hlt).1.one
      have tS := run_one _ (Hr.sz j hlt).1.one
      have tC := run_one _ (Hr.cl j hlt).one
      unfold shQ at rj r0
      obtain ⟨p0, p1, p2, p3, p4, p5, p6⟩ := range7 rj
      obtain ⟨q0, q1, q2, q3, q4, q5, q6⟩ := range7 r0
      simp only [Nat.zero_mul, Nat.add_zero] at q0 q1 q2 q3 q4 q5 q6
      have b1 : Below wr.heap.size wr (wr.alloc (.cells (shQ (sh j) (vN j) (vS j) (vC j)).toArray 41)) := (Below.refl _ _).alloc (Nat.le_refl _) _
      have cn := cells_new wr (shQ (sh j) (vN j) (vS j) (vC j)) 41
      have H1 := Hr.below b1.drew (Nat.le_refl _)
      have k1 := ofOne_any (sh 0) (sh j) (vN 0) (vS 0) (vC 0) (vN j) (vS j) (vC j) _ (H1.nm 0 (by omega)).1 (H1.sz 0 (by omega)).1 (H1.nm j hlt).1 (H1.sz j hlt).1 (H1.nm 0 (by omega)).2 (H1.sz 0 (by omega)).2
      have q' : ∀ {x : Nat} {u : Value}, wr.cell? ⟨b, x, none⟩ = some u → (wr.alloc (.cells (shQ (sh j) (vN j) (vS j) (vC j)).toArray 41)).cell? ⟨b, x, none⟩ = some u := fun {x u} h => (b1.cell (p := ⟨b, x, none⟩) hbl).trans h
      replace q0 := q' q0
      replace q1 := q' q1
      replace q2 := q' q2
      replace q3 := q' q3
      replace q4 := q' q4
      replace q5 := q' q5
      replace q6 := q' q6
      have c0 := cn 0
      have c1 := cn 1
      have c2 := cn 2
      have c3 := cn 3
      have c4 := cn 4
      have c5 := cn 5
      have c6 := cn 6
      have b2 := hb.trans (b1.mono hb.size)
      simp only [shQ, List.getElem?_cons_zero, List.getElem?_cons_succ] at c0 c1 c2 c3 c4 c5 c6 k1 q0 q1 q2 q3 q4 q5 q6 b2
      clear H1 cn q' r0 rj hcell b1
      go_wp2_with fail
      generalize hw1 : wr.alloc (.cells #[.int .i64 ((sh j).k : Int), .int .i64 ((sh j).n : Int), .int .i64 ((sh j).i : Int), .int .i64 ((sh j).c : Int), vN j, vS j, vC j] 41) = w1 at *
      clear hw1 p0 p1 p2 p3 p4 p5 p6 tN tS tC
      rcases ho : oneA (sh 0) (sh j) with _ | _
      · rw [ho] at k1
        go_region_with (first | (go_at_call 48; (with_reducible refine k1.mono ?_); rintro r w2 ⟨rfl, hb2⟩))
        all_goals
          go_wp2_with (first | (go_at_call 49; refine (at_any _ _ 10 j (by rfl) (by simp) _).mono ?_; rintro q w3 ⟨v, rfl, h1, h2⟩))
          go_ret
          exact ⟨(b2.drew.trans (hb2.mono b2.size)).trans (h2.mono (Nat.le_trans b2.size hb2.size)), 10, v, .inl ⟨rfl, fun hA => by have := hA j hlt; rw [ho] at this; cases this⟩, rfl, fun h => absurd h (by decide), fun _ => ⟨j, h1⟩⟩
      · rw [ho] at k1
        go_region_with (first | (go_at_call 48; (with_reducible refine k1.mono ?_); rintro r w2 ⟨rfl, hb2⟩))
        all_goals
          go_wp2
          go_roundw
          case rel => exact ⟨j + 1, by omega, by go_num, b2.drew.trans (hb2.mono b2.size), fun i hi => by
            by_cases e : i = j
            · rw [e]; exact ho
            · exact hall i (by omega)⟩
          case measure => simp [intOf]; omega
    · obtain rfl : j = n := by omega
      have hnl : ¬ ((j : Int) < (j : Int)) := by omega
      go_wp2
      go_loopw [5] (fun vt w2 => ∃ x : Nat, (x + 1 ≤ j ∨ x = 0) ∧ vt = .int .i64 ((x : Int) + 1) ∧ Below w.heap.size w w2 ∧ ∀ y, y < x → (sh (y + 1)).i ≠ (sh y).i) (fun vt _ => j + 1 - (intOf vt).toNat)
      case atStart => exact ⟨0, .inr rfl, rfl, hb, fun y hy => absurd hy (by omega)⟩
      case round =>
        clear hb Hr
        obtain ⟨x, hx, rfl, hb, hdup⟩ := hrel
        have Hr := H.below hb (Nat.le_refl _)
        by_cases hlt : x + 1 < j
        · have hlt1 : (x : Int) + 1 < (j : Int) := by omega
          have hlt0 : (x : Int) < (j : Int) := by omega
          have ed : ((x : Int) + 1) - 1 = (x : Int) := by omega
          obtain ⟨b, o, rfl, hbl, hcell⟩ := Hr.cells (by omega)
          have c1 := hcell (x + 1) hlt 2 _ rfl
          have c0 := hcell x (by omega) 2 _ rfl
          clear hcell
          rcases he : (((sh (x + 1)).i : Int) == ((sh x).i : Int)) with _ | _
          · go_wp2_with fail
            go_region
            go_wp2
            go_roundw
            case rel => exact ⟨x + 1, .inl (by omega), by go_num, hb.drew, fun y hy => by
              by_cases e : y = x
              · rw [e]
                intro h
                rw [h] at he
                simp at he
              · exact hdup y (by omega)⟩
            case measure => simp [intOf]; omega
          · go_wp2_with fail
            go_region
            go_wp2_with (first | (go_at_call 49; refine (at_any 11 ((x : Int) + 1) 11 (x + 1) rfl (by omega) _).mono ?_; rintro q w3 ⟨v, rfl, h1, h2⟩))
            go_ret
            exact ⟨hb.drew.trans (h2.mono hb.size), 11, v, .inr (.inl ⟨rfl, hall, x, hlt, by have := eq_of_beq he; omega⟩), rfl, fun h => absurd h (by decide), fun _ => ⟨_, h1⟩⟩
        · have hnl : ¬ ((x : Int) + 1 < (j : Int)) := by omega
          have hnd : ¬ Dup j sh := fun ⟨t, ht, e⟩ => hdup t (by omega) e
          rcases Nat.eq_zero_or_pos j with h0 | h0
          · subst h0
            go_wp2_with (first | (go_at_call 49; refine (at_any _ _ 12 0 (by rfl) (by rfl) _).mono ?_; rintro q w3 ⟨v, rfl, h1, h2⟩))
            go_ret
            exact ⟨hb.trans (h2.mono hb.size), 12, v, .inr (.inr (.inl ⟨rfl, hall, hnd, .inl rfl⟩)), rfl, fun h => absurd h (by decide), fun _ => ⟨_, h1⟩⟩
          · have he : ((j : Int) == 0) = false := by simp; omega
            have h0n : (0 : Int) < (j : Int) := by omega
            obtain ⟨b, o, rfl, hbl, hcell⟩ := Hr.cells h0
            have c0 := hcell 0 h0 0 _ rfl
            simp only [Nat.zero_mul, Nat.add_zero] at c0
            clear hcell
            by_cases hk : (j : Int) < ((sh 0).k : Int)
            · go_wp2_with (first | (go_at_call 49; refine (at_any _ _ 12 j (by rfl) (by simp) _).mono ?_; rintro q w3 ⟨v, rfl, h1, h2⟩))
              go_ret
              exact ⟨hb.trans (h2.mono hb.size), 12, v, .inr (.inr (.inl ⟨rfl, hall, hnd, .inr (by omega)⟩)), rfl, fun h => absurd h (by decide), fun _ => ⟨_, h1⟩⟩
            · go_wp2
              go_ret
              exact ⟨hb, 0, _, .inr (.inr (.inr ⟨rfl, hall, hnd, h0, by omega⟩)), rfl, fun _ => rfl, fun h => absurd rfl h⟩
end Go.Proofs.YtlghjjennhpjeaaGreatDoor

/-
  How the program reads a shard: a piece and its sum (sealed).
  A drawn region that reads, and whose last operations wait for all others: its head is walked once, by the cheap step.
-/
namespace Go.Proofs.YtlghjjennhpjeaaGreatDoor
open Go.RowKit Go.Deep

/-- What sealed tells of a piece t that stands at a place; z: how many bytes it has to have. -/
def sealT (z pl : Nat) (t : List UInt8) : Option (Nat × Nat) :=
  if t.length < z then some (4, pl + t.length)
  else if sumOf (part t 0 (t.length - 8)) = le (part t (t.length - 8) 8) 0 8 then none else some (6, pl + (t.length - 8))
def SealPost (w : World) (x : Option (Nat × Nat)) (bt : Option Addr) (tl ct : Nat) (q : Ending) (w' : World) : Prop :=
  match x with
  | some e => ∃ v, q = .returned (.tuple #[.slice none 0 0, v]) ∧ Chain w' 0 v e.1 e.2 ∧ Below w.heap.size w w'
  | none => q = .returned (.tuple #[.slice bt (tl - 8) ct, .nilIface]) ∧ ∃ j, w' = w.drewN j

section
variable (rb : Nat) (r : Rd) (bc : Option Addr) (cl cc : Nat) (hC : r.vC = .slice bc cl cc) (hm : r.m ≤ 1000000) (hc : r.c ≤ 1000000) (hl : r.ln ≤ 1000000) (hcl : cl ≤ r.ln) (hnx : r.nx ≤ 2) (t : List UInt8) (bt : Option Addr) (ct : Nat) (hT : r.vT = .slice bt t.length ct) (htl : t.length ≤ 1000000000) (hpl : r.pl ≤ 1000000000000) (w : World) (h : RdAt w rb r) (hL : Lies w r.vT (u8V t)) (hTab : Tab w)
set_option maxHeartbeats 4000000 in
set_option maxRecDepth 100000 in
include hC hm hc hl hcl hnx hT htl hpl h hL hTab in
theorem rsealed_any :
    Calls Tryz.prog 131 #[.pointer (some ⟨rb, 0, none⟩)] w fun q w' => SealPost w (sealT (sizeR r.nx r.c r.m r.ln cl) r.pl t) bt t.length ct q w' := by
  have hz8 : 8 ≤ sizeR r.nx r.c r.m r.ln cl := by
    unfold sizeR
    split
    · omega
    · split
      · omega
      · split
        · omega
        · omega
  have KY := whole_yes rb r bc cl cc hC hm hc hl hcl (by omega) bt t.length ct hT w h
  have KN := whole_no rb r bc cl cc hC hm hc hl hcl (by omega) bt t.length ct hT htl hpl w h
  obtain ⟨z, ez⟩ : ∃ z, sizeR r.nx r.c r.m r.ln cl = z := ⟨_, rfl⟩
  simp only [ez] at KY KN hz8 ⊢
  have c12 : w.cell? ⟨rb, 12, none⟩ = some (.slice bt t.length ct) := by rw [← hT]; exact RowAt.cell h rfl
  have c11 : w.cell? ⟨rb, 11, none⟩ = some (.int .i64 (r.pl : Int)) := RowAt.cell h rfl
  obtain ⟨pl, epl⟩ : ∃ pl, r.pl = pl := ⟨_, rfl⟩
  rw [epl] at c11 hpl KN ⊢
  rcases Nat.lt_or_ge t.length z with q | q
  · have HP : Hid (sealT z pl t = some (4, pl + t.length)) := if_pos q
    have K := KN q
    clear KY KN h hC hT hL
    go_enter Tryz.func131, Tryz.ntmps131
    go_wp2_with (first | (go_at_call 136; refine K.mono ?_; rintro q w2 ⟨v, rfl, g1, g2⟩; obtain ⟨ty, x, rfl⟩ := g1.iface))
    go_ret2
    unfold SealPost
    rw [HP.out]
    exact ⟨_, rfl, g1, g2⟩
  · have K := KY q
    obtain ⟨b, off, eb, hby⟩ : ∃ b off, bt = some ⟨b, off, none⟩ ∧ Byt w b off t := by
      obtain ⟨ba, cap, e1, e2, e3⟩ := hL
      rw [hT, u8V_length] at e1
      cases e1
      obtain ⟨b, off, e4, _⟩ := e3 0 _ (u8V_get (by omega))
      refine ⟨b, off, e4, fun i hi => ?_⟩
      obtain ⟨b', off', e5, e6⟩ := e3 i _ (u8V_get hi)
      rw [e4] at e5
      cases e5
      exact e6
    subst eb
    obtain ⟨en, een⟩ : ∃ en, t.length = en + 8 := ⟨t.length - 8, by omega⟩
    have hcap : t.length ≤ ct := by
      obtain ⟨ba, cap, e1, e2, e3⟩ := hL
      rw [hT, u8V_length] at e1
      cases e1
      rw [u8V_length] at e2
      exact e2
    have hB1 : Byt w b off (part t 0 en) := by have := hby.part (a := 0) (n := en) (by omega); exact this
    have hB2 : Byt w b (off + en) (part t en 8) := hby.part (by omega)
    have e1 : (part t 0 en).length = en := part_length (by omega)
    have e2 : (part t en 8).length = 8 := part_length (by omega)
    have K1 := fun n cap => sumOf_any b off cap (part t 0 en) (by omega) (w.drewN n) hB1 (hTab.heap rfl)
    have K2 := fun n cap => readNumber_any b (off + en) 8 cap (part t en 8) e2 (by omega) (w.drewN n) hB2
    rw [e1] at K1
    have hS : sealT z pl t = if sumOf (part t 0 en) = le (part t en 8) 0 8 then none else some (6, pl + en) := by
      unfold sealT
      rw [if_neg (by omega), een, Nat.add_sub_cancel]
    have hs1 := sumOf_lt (part t 0 en)
    have hs2 : le (part t en 8) 0 8 < 2 ^ 64 := by have := le_lt (part t en 8) 8 0; simpa using this
    obtain ⟨s1, es1⟩ : ∃ s1, sumOf (part t 0 en) = s1 := ⟨_, rfl⟩
    obtain ⟨s2, es2⟩ : ∃ s2, le (part t en 8) 0 8 = s2 := ⟨_, rfl⟩
    rw [es1, es2] at hS
    simp only [es1] at K1 hs1
    simp only [es2] at K2 hs2
    have HS : Hid (sealT z pl t = if s1 = s2 then none else some (6, pl + en)) := hS
    rw [een] at c12 hcap htl ⊢
    clear KY KN h hC hT hL hS es1 es2 e1 e2 hB1 hB2 hby een
    by_cases qs : s1 = s2
    · have HP : Hid (sealT z pl t = none) := by rw [HS.out, if_pos qs]; exact rfl
      subst qs
      clear HS
      go_enter Tryz.func131, Tryz.ntmps131
      go_wp2_with (first | (go_at_call 136; refine K.mono ?_; rintro q w2 ⟨rfl, j, hw2⟩; obtain rfl := hw2.symm))
      go_big_quiet (first | (go_at_call 138; exact (K1 _ _).mono (fun _ _ h => ⟨h.1, _, h.2⟩)) | (go_at_call 139; exact (K2 _ _).mono (fun _ _ h => ⟨h.1, _, h.2⟩)))
      go_wp2
      go_ret2
      unfold SealPost
      rw [HP.out]
      exact ⟨rfl, _, rfl⟩
    · have HP : Hid (sealT z pl t = some (6, pl + en)) := by rw [HS.out, if_neg qs]; exact rfl
      have q' : ((s1 : Int) == (s2 : Int)) = false := by simp; omega
      have q2 : ((s1 : Int) != (s2 : Int)) = true := by simp; omega
      have hwr : IntKind.i64.wrap ((pl : Int) + (en : Int)) = (pl : Int) + (en : Int) := IntWalk.i64_in _ (by omega)
      clear HS
      go_enter Tryz.func131, Tryz.ntmps131
      go_wp2_with (first | (go_at_call 136; refine K.mono ?_; rintro q w2 ⟨rfl, j, hw2⟩; obtain rfl := hw2.symm))
      go_big_quiet (first | (go_at_call 138; exact (K1 _ _).mono (fun _ _ h => ⟨h.1, _, h.2⟩)) | (go_at_call 139; exact (K2 _ _).mono (fun _ _ h => ⟨h.1, _, h.2⟩)))
      go_wp2_with (first | (go_at_call 49; refine (at_any _ _ 6 (pl + en) (by rfl) (by simp) _).mono ?_; rintro q w2 ⟨v, rfl, g1, g2⟩))
      go_ret2
      unfold SealPost
      rw [HP.out]
      exact ⟨_, rfl, g1, ⟨g2.os, g2.tape, g2.output, g2.size, g2.block⟩⟩
end
end Go.Proofs.YtlghjjennhpjeaaGreatDoor

namespace Go.Proofs.YtlghjjennhpjeaaGreatDoor
open Go.RowKit Go.Deep

theorem still_of_quiet_op {P : Program} {o : Oper} {a : Act} {w : World} {K K' : Act → Prop} (hk : ∀ a, K a → K' a) (h : o.quiet P a (fun w' => w' = w) K) : o.still P a w K' := by
  obtain ⟨v, h1, h2⟩ := h
  have h3 := h1 w rfl
  unfold Oper.quietAt at h3
  unfold Oper.still
  generalize (execOp a.eval o).run P w = R at h3
  unfold Oper.quietUpon at h3
  unfold Oper.stillUpon
  split at h3
  · exact ⟨h3.1, by rw [h3.2]; exact hk _ h2⟩
  · exact ⟨h3.1, by rw [← h3.2]; exact hk _ h2⟩
  · exact ⟨h3.1, v, h3.2, hk _ h2⟩
  · exact h3.elim
theorem still_of_quiet {P : Program} {ops : Array Oper} {w : World} {Q : Act → Prop} : ∀ (l : List Oper) (a : Act), wpQuiet P ops (fun w' => w' = w) Q l a → wpStill P ops w Q l a
  | [], _, h => h
  | o :: rest, a, h => by
    unfold wpQuiet at h
    unfold wpStill
    split
    · rename_i hw
      rw [if_pos hw] at h
      exact still_of_quiet_op (fun a' => still_of_quiet rest a') h
    · rename_i hw
      rw [if_neg hw] at h
      exact still_of_quiet rest _ h
theorem wp_region_quiet_tail {P : Program} {id : Nat} {Q : Exit → Act → World → Prop} {a : Act} {w : World} {l : List Oper} (n : Nat) (hm : P.follows .mixedOrders = true) (hB : Region.lexTailB .any l.toArray n = true)
    (h : wpQuiet P l.toArray (fun w' => w' = w.drew) (fun a' => wpList P l.toArray Q (l.drop n) a' w.drew) (l.take n) a) : (Code.region id l.toArray true).wp P Q a w :=
  wp_region_tail n hm hB (still_of_quiet _ _ h)
end Go.Proofs.YtlghjjennhpjeaaGreatDoor

/-
  How the program reads a shard, in plain words: bytes that stand in others, their numbers, sums, words; the numbers of a head; the blobs of a manifest.
-/
namespace Go.Proofs.YtlghjjennhpjeaaGreatDoor

/-- These bytes stand there. -/
def At (Z : List UInt8) (a : Nat) (t : List UInt8) : Prop := a + t.length ≤ Z.length ∧ ∀ i, i < t.length → bAt Z (a + i) = bAt t i
theorem At.more {Z t : List UInt8} {a : Nat} (h : At Z a t) (x : List UInt8) : At (Z ++ x) a t := by
  refine ⟨by simp; have := h.1; omega, fun i hi => ?_⟩
  rw [← h.2 i hi]
  have := h.1
  simp only [bAt, List.getD_eq_getElem?_getD]
  rw [List.getElem?_append_left (by omega)]
theorem ext_bAt {p q : List UInt8} (hl : p.length = q.length) (h : ∀ i, i < p.length → bAt p i = bAt q i) : p = q := by
  apply List.ext_getElem hl
  intro i h1 h2
  have := h i h1
  simp only [bAt, List.getD_eq_getElem?_getD, List.getElem?_eq_getElem h1, List.getElem?_eq_getElem h2, Option.getD_some] at this
  exact UInt8.toNat_inj.1 this
theorem At.num {Z t : List UInt8} {a : Nat} (h : At Z a t) : ∀ n j, j + n ≤ t.length → le Z (a + j) n = le t j n
  | 0, _, _ => rfl
  | n + 1, j, hj => by
    show bAt Z (a + j) + 256 * le Z (a + j + 1) n = bAt t j + 256 * le t (j + 1) n
    rw [h.2 j (by omega), Nat.add_assoc, At.num h n (j + 1) (by omega)]
theorem At.cut {Z t : List UInt8} {a : Nat} (h : At Z a t) {j n : Nat} (hn : j + n ≤ t.length) : part Z (a + j) n = part t j n := by
  have := h.1
  apply ext_bAt
  · rw [part_length (by omega), part_length hn]
  · intro i hi
    rw [part_length (by omega)] at hi
    rw [part_at hi, part_at hi, Nat.add_assoc, h.2 (j + i) (by omega)]
theorem At.of_part (t : List UInt8) {j n : Nat} (hn : j + n ≤ t.length) : At t j (part t j n) := by
  refine ⟨by rw [part_length hn]; exact hn, fun i hi => ?_⟩
  rw [part_length hn] at hi
  rw [part_at hi]
theorem At.trans {Z t u : List UInt8} {a b : Nat} (h : At Z a t) (k : At t b u) : At Z (a + b) u := by
  have h1 := h.1
  have h2 := k.1
  refine ⟨by omega, fun i hi => ?_⟩
  rw [Nat.add_assoc, h.2 (b + i) (by omega), k.2 i hi]
theorem le_part {t : List UInt8} {j n : Nat} (hn : j + n ≤ t.length) : le (part t j n) 0 n = le t j n := by
  have h := (At.of_part t hn).num n 0 (by rw [part_length hn]; omega)
  rw [← h]; rfl
theorem bAt_cons (c : UInt8) (l : List UInt8) (i : Nat) : bAt (c :: l) (i + 1) = bAt l i := by simp [bAt]
theorem le_cons (c : UInt8) (l : List UInt8) : ∀ n a, le (c :: l) (a + 1) n = le l a n
  | 0, _ => rfl
  | n + 1, a => by
    show bAt (c :: l) (a + 1) + 256 * le (c :: l) (a + 1 + 1) n = bAt l a + 256 * le l (a + 1) n
    rw [bAt_cons, le_cons c l n (a + 1)]
theorem le_leB : ∀ n v, le (leB n v) 0 n = v % 256 ^ n
  | 0, v => by simp [le, Nat.mod_one]
  | n + 1, v => by
    show bAt (UInt8.ofNat (v % 256) :: leB n (v / 256)) 0 + 256 * le (UInt8.ofNat (v % 256) :: leB n (v / 256)) (0 + 1) n = _
    rw [le_cons, le_leB n (v / 256)]
    have : bAt (UInt8.ofNat (v % 256) :: leB n (v / 256)) 0 = v % 256 := by
      simp [bAt]
    rw [this, Nat.pow_succ, Nat.mul_comm (256 ^ n), Nat.mod_mul]
theorem leB_le : ∀ (p : List UInt8), leB p.length (le p 0 p.length) = p
  | [] => rfl
  | c :: p => by
    have h : le (c :: p) 0 (p.length + 1) = c.toNat + 256 * le p 0 p.length := by
      show bAt (c :: p) 0 + 256 * le (c :: p) (0 + 1) p.length = _
      rw [le_cons]; rfl
    have hc := UInt8.toNat_lt c
    show UInt8.ofNat (le (c :: p) 0 (p.length + 1) % 256) :: leB p.length (le (c :: p) 0 (p.length + 1) / 256) = _
    rw [h, show (c.toNat + 256 * le p 0 p.length) % 256 = c.toNat by omega, show (c.toNat + 256 * le p 0 p.length) / 256 = le p 0 p.length by omega, leB_le p]
    simp
theorem sum_eq {p : List UInt8} {s : Nat} (hp : p.length = 8) (hs : s < 2 ^ 64) : p = leB 8 s ↔ s = le p 0 8 := by
  constructor
  · intro h
    rw [h, le_leB, Nat.mod_eq_of_lt (by simpa using hs)]
  · intro h
    have := leB_le p
    rw [hp] at this
    rw [h, this]
theorem At.seal {Z t : List UInt8} {a n : Nat} (h : At Z a t) (ht : t.length = n + 8) : sealE Z a n = if sumOf (part t 0 n) = le (part t n 8) 0 8 then none else some (6, a + n) := by
  have h1 := h.1
  unfold sealE
  rw [if_neg (by omega), h.cut (j := n) (n := 8) (by omega)]
  have h2 := h.cut (j := 0) (n := n) (by omega)
  rw [Nat.add_zero] at h2
  rw [h2]
  have := sum_eq (p := part t n 8) (s := sumOf (part t 0 n)) (part_length (by omega)) (sumOf_lt _)
  by_cases q : part t n 8 = leB 8 (sumOf (part t 0 n))
  · rw [if_pos q, if_pos (this.1 q)]
  · rw [if_neg q, if_neg (fun x => q (this.2 x))]
theorem seal_short {Z : List UInt8} {a n : Nat} (h : Z.length < a + n + 8) : sealE Z a n = some (4, Z.length) := by
  unfold sealE
  rw [if_pos h]

theorem fixE_some (Z : List UInt8) : ∀ (ws : List UInt8) (a i : Nat), i < ws.length → a + i < Z.length → (∀ j, j < i → bAt Z (a + j) = (ws.getD j 0).toNat) → bAt Z (a + i) ≠ (ws.getD i 0).toNat → fixE Z a ws = some (5, a + i)
  | [], _, _, h, _, _, _ => by simp at h
  | c :: ws, a, 0, _, h2, _, h4 => by
    unfold fixE
    rw [if_neg (by omega), if_neg (by simpa using h4)]; rfl
  | c :: ws, a, i + 1, h1, h2, h3, h4 => by
    have h0 := h3 0 (by omega)
    unfold fixE
    rw [if_neg (by omega), if_pos (by simpa using h0)]
    rw [fixE_some Z ws (a + 1) i (by simpa using h1) (by omega) (fun j hj => ?_) ?_, show a + 1 + i = a + (i + 1) by omega]
    · rw [show a + 1 + i = a + (i + 1) by omega]; simpa using h4
    · have := h3 (j + 1) (by omega)
      rw [show a + 1 + j = a + (j + 1) by omega, this]; simp
theorem fixE_none (Z : List UInt8) : ∀ (ws : List UInt8) (a : Nat), (∀ j, j < ws.length → a + j < Z.length ∧ bAt Z (a + j) = (ws.getD j 0).toNat) → fixE Z a ws = none
  | [], _, _ => rfl
  | c :: ws, a, h => by
    have h0 := h 0 (by simp)
    unfold fixE
    rw [if_neg (by omega), if_pos (by simpa using h0.2)]
    refine fixE_none Z ws (a + 1) (fun j hj => ?_)
    have := h (j + 1) (by simpa using hj)
    rw [show a + 1 + j = a + (j + 1) by omega]
    exact ⟨this.1, by rw [this.2]; simp⟩
theorem fixE_short (Z : List UInt8) : ∀ (ws : List UInt8) (a d : Nat), d < ws.length → Z.length = a + d → (∀ j, j < d → bAt Z (a + j) = (ws.getD j 0).toNat) → fixE Z a ws = some (4, Z.length)
  | [], _, _, h, _, _ => by simp at h
  | c :: ws, a, 0, _, h2, _ => by
    unfold fixE
    rw [if_pos (by omega)]
  | c :: ws, a, d + 1, h1, h2, h3 => by
    have h0 := h3 0 (by omega)
    unfold fixE
    rw [if_neg (by omega), if_pos (by simpa using h0)]
    refine fixE_short Z ws (a + 1) d (by simpa using h1) (by omega) (fun j hj => ?_)
    have := h3 (j + 1) (by omega)
    rw [show a + 1 + j = a + (j + 1) by omega, this]; simp
theorem begE_some_iff {l ws : List UInt8} {c : Nat} : begE l ws = some c ↔ c < min ws.length l.length ∧ (∀ i, i < c → bAt l i = (ws.getD i 0).toNat) ∧ bAt l c ≠ (ws.getD c 0).toNat := by
  unfold begE
  rw [List.find?_range_eq_some]
  constructor
  · rintro ⟨h1, h2, h3⟩
    exact ⟨by simpa using h2, fun i hi => by simpa using h3 i hi, by simpa using h1⟩
  · rintro ⟨h1, h2, h3⟩
    exact ⟨by simpa using h3, by simpa using h1, fun i hi => by simpa using h2 i hi⟩
theorem begE_none_iff {l ws : List UInt8} : begE l ws = none ↔ ∀ i, i < min ws.length l.length → bAt l i = (ws.getD i 0).toNat := by
  unfold begE
  rw [List.find?_eq_none]
  constructor
  · intro h i hi
    have := h i (by simpa using hi)
    simpa using this
  · intro h i hi
    have := h i (by simpa using hi)
    simpa using this
theorem At.fix_some {Z t ws : List UInt8} {a i : Nat} (h : At Z a t) (hb : begE t ws = some i) : fixE Z a ws = some (5, a + i) := by
  obtain ⟨h1, h2, h3⟩ := begE_some_iff.1 hb
  have h4 := h.1
  refine fixE_some Z ws a i (by omega) (by omega) (fun j hj => ?_) ?_
  · rw [h.2 j (by omega)]; exact h2 j hj
  · rw [h.2 i (by omega)]; exact h3
theorem At.fix_none {Z t ws : List UInt8} {a : Nat} (h : At Z a t) (hb : begE t ws = none) (hl : ws.length ≤ t.length) : fixE Z a ws = none := by
  have h1 := begE_none_iff.1 hb
  have h4 := h.1
  refine fixE_none Z ws a (fun j hj => ⟨by omega, ?_⟩)
  rw [h.2 j (by omega)]; exact h1 j (by omega)
theorem At.fix_short {Z t ws : List UInt8} {a : Nat} (h : At Z a t) (hb : begE t ws = none) (hl : t.length < ws.length) (hz : Z.length = a + t.length) : fixE Z a ws = some (4, Z.length) := by
  have h1 := begE_none_iff.1 hb
  refine fixE_short Z ws a t.length hl hz (fun j hj => ?_)
  rw [h.2 j hj]; exact h1 j (by omega)

/-- The first of the numbers that is too small or too great: its place. -/
def numsE : List (Nat × Nat × Int × Int) → Option Nat
  | [] => none
  | (p, v, lo, hi) :: r => if (v : Int) < lo ∨ hi < (v : Int) then some p else numsE r
theorem orE_assoc (a b c : Option (Nat × Nat)) : orE (orE a b) c = orE a (orE b c) := by cases a <;> rfl
theorem numsE_cons (p v : Nat) (lo hi : Int) (r : List (Nat × Nat × Int × Int)) (ok : Bool) (h : ok = true ↔ lo ≤ (v : Int) ∧ (v : Int) ≤ hi) : (numsE ((p, v, lo, hi) :: r)).map (fun x => (1, x)) = orE (mustE ok 1 p) ((numsE r).map (fun x => (1, x))) := by
  cases ok with
  | true =>
    have := h.1 rfl
    show (if (v : Int) < lo ∨ hi < (v : Int) then some p else numsE r).map (fun x => (1, x)) = _
    rw [if_neg (by omega)]; rfl
  | false =>
    have : ¬ (lo ≤ (v : Int) ∧ (v : Int) ≤ hi) := fun x => by have := h.2 x; cases this
    show (if (v : Int) < lo ∨ hi < (v : Int) then some p else numsE r).map (fun x => (1, x)) = _
    rw [if_pos (by omega)]; rfl
theorem headR_nums (k n i z c m ln zz : Nat) : headR none k n i z c m ln zz = (numsE [(6, k, 1, 128), (7, n, (k : Int), 128), (8, i, 0, (n : Int) - 1), (9, z, 0, 0), (10, c, 1, 65536), (14, m, 4, 300000), (18, ln, 0, 65536), (22, zz, 0, 0)]).map (fun x => (1, x)) := by
  rw [numsE_cons _ _ _ _ _ (decide (1 ≤ k ∧ k ≤ 128)) (by simp; omega), numsE_cons _ _ _ _ _ (decide (k ≤ n ∧ n ≤ 128)) (by simp; omega), numsE_cons _ _ _ _ _ (decide (i < n)) (by simp; omega), numsE_cons _ _ _ _ _ (decide (z = 0)) (by simp), numsE_cons _ _ _ _ _ (decide (1 ≤ c ∧ c ≤ 65536)) (by simp; omega), numsE_cons _ _ _ _ _ (decide (4 ≤ m ∧ m ≤ 300000)) (by simp; omega), numsE_cons _ _ _ _ _ (decide (ln ≤ 65536)) (by simp; omega), numsE_cons _ _ _ _ _ (decide (zz = 0)) (by simp)]
  unfold headR
  simp only [orE_assoc]
  have : (Option.map (fun x => (1, x)) (numsE [])) = (none : Option (Nat × Nat)) := rfl
  rw [this]
  have o : ∀ r : Option (Nat × Nat), orE r none = r := fun r => by cases r <;> rfl
  rw [o]
  rfl

/-- A blob of a manifest, from a place on: its name and its size, or where it is wrong. -/
def blob1 (u : List UInt8) (a : Nat) (ns : List (List UInt8)) (zs : List Nat) : Except Nat (List UInt8 × Nat) :=
  if u.length < a + 6 ∨ le u a 2 < 1 ∨ 255 < le u a 2 ∨ u.length < a + 6 + le u a 2 then .error a
  else if 0 < ns.length ∧ notBehind (part u (a + 2) (le u a 2)) (ns.getD (ns.length - 1) []) = true then .error (a + 2)
  else if 65536 < zs.sum + le u (a + 2 + le u a 2) 4 then .error (a + 2 + le u a 2)
  else .ok (part u (a + 2) (le u a 2), le u (a + 2 + le u a 2) 4)
def loopP (u : List UInt8) : Nat → Nat → List (List UInt8) → List Nat → Except Nat (List (List UInt8) × List Nat)
  | 0, a, ns, zs => if a < u.length then .error a else .ok (ns, zs)
  | c + 1, a, ns, zs => match blob1 u a ns zs with
    | .error p => .error p
    | .ok (nm, z) => loopP u c (a + (6 + nm.length)) (ns ++ [nm]) (zs ++ [z])
def listP (u : List UInt8) : Except Nat (List (List UInt8) × List Nat) := if 1000 < le u 0 4 then .error 0 else loopP u (le u 0 4) 4 [] []
def upE (b : Nat) (r : Except Nat (List (List UInt8) × List Nat)) : Except (Nat × Nat) (List (List UInt8) × List Nat) :=
  match r with
  | .error p => .error (7, b + p)
  | .ok x => .ok x
theorem loop_blobs {Z u : List UInt8} {m : Nat} (h : At Z 32 u) (hu : u.length = m) : ∀ (c a : Nat) (ns : List (List UInt8)) (zs : List Nat), a ≤ m → zs.sum ≤ 65536 → endE (32 + m) (blobsE Z (32 + m) c (32 + a) ns zs) = upE 32 (loopP u c a ns zs)
  | 0, a, ns, zs, ha, _ => by
    unfold blobsE loopP
    simp only [endE]
    by_cases q : a < u.length
    · rw [if_pos q, if_neg (by omega)]; rfl
    · rw [if_neg q, if_pos (by omega)]; rfl
  | c + 1, a, ns, zs, ha, hz => by
    unfold blobsE loopP
    by_cases q0 : u.length < a + 6
    · have hb : blob1 u a ns zs = .error a := by unfold blob1; rw [if_pos (.inl q0)]
      rw [hb]
      by_cases q1 : 32 + m < 32 + a + 2
      · rw [if_pos q1]; rfl
      · rw [if_neg q1, if_pos (by right; right; omega)]; rfl
    · have e2 : le Z (32 + a) 2 = le u a 2 := h.num 2 a (by omega)
      rw [if_neg (by omega), e2]
      by_cases q1 : le u a 2 < 1 ∨ 255 < le u a 2 ∨ u.length < a + 6 + le u a 2
      · have hb : blob1 u a ns zs = .error a := by unfold blob1; rw [if_pos (.inr q1)]
        rw [hb, if_pos (by omega)]; rfl
      · have e3 : part Z (32 + a + 2) (le u a 2) = part u (a + 2) (le u a 2) := by rw [Nat.add_assoc]; exact h.cut (by omega)
        have e4 : le Z (32 + a + 2 + le u a 2) 4 = le u (a + 2 + le u a 2) 4 := by
          rw [show 32 + a + 2 + le u a 2 = 32 + (a + 2 + le u a 2) by omega]; exact h.num 4 _ (by omega)
        rw [if_neg (by omega), e3, e4]
        by_cases q2 : 0 < ns.length ∧ notBehind (part u (a + 2) (le u a 2)) (ns.getD (ns.length - 1) []) = true
        · have hb : blob1 u a ns zs = .error (a + 2) := by unfold blob1; rw [if_neg (by omega), if_pos q2]
          rw [hb, if_pos q2]; simp only [endE, upE]; rw [Nat.add_assoc]
        · rw [if_neg q2]
          have hs : 65536 < totalS (zs ++ [le u (a + 2 + le u a 2) 4]) ↔ 65536 < zs.sum + le u (a + 2 + le u a 2) 4 := by
            unfold totalS
            simp only [List.sum_append, List.sum_cons, List.sum_nil, Nat.add_zero]
            split <;> omega
          by_cases q3 : 65536 < zs.sum + le u (a + 2 + le u a 2) 4
          · have hb : blob1 u a ns zs = .error (a + 2 + le u a 2) := by unfold blob1; rw [if_neg (by omega), if_neg q2, if_pos q3]
            rw [hb, if_pos (hs.2 q3)]; simp only [endE, upE]; rw [show 32 + a + 2 + le u a 2 = 32 + (a + 2 + le u a 2) by omega]
          · have hb : blob1 u a ns zs = .ok (part u (a + 2) (le u a 2), le u (a + 2 + le u a 2) 4) := by unfold blob1; rw [if_neg (by omega), if_neg q2, if_neg q3]
            rw [hb, if_neg (fun x => q3 (hs.1 x))]
            simp only
            have hl : (part u (a + 2) (le u a 2)).length = le u a 2 := part_length (by omega)
            rw [show 32 + a + 6 + le u a 2 = 32 + (a + (6 + (part u (a + 2) (le u a 2)).length)) by rw [hl]; omega]
            exact loop_blobs h hu c _ _ _ (by rw [hl]; omega) (by simp; omega)
end Go.Proofs.YtlghjjennhpjeaaGreatDoor

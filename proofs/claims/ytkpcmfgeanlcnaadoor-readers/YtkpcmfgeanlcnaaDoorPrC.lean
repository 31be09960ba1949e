/-
  What the program's faults are made by; what its numbers are read by.
  How the program reads a shard: what it keeps (Reading), and the small calls on it: size, whole, begins.
  How the program reads a shard: what a piece begins with (begins).
-/
import Derived.Test.YtkpcmfgeanlcnaaDoorErA
import Derived.Test.YtkpcmfgeanlcnaaDoorScanF
import Derived.BigQuiet
namespace Go.Proofs.YtkpcmfgeanlcnaaDoor
open Go.RowKit Go.Deep

theorem Chain.under {w w' : World} (hb : Below w.heap.size w w') : ∀ {d : Nat} {v : Value} {e p : Nat}, Chain w d v e p → Chain w' d v e p
  | 0, _, _, _, ⟨b, e1, h1⟩ => ⟨b, e1, h1.later (S := fun _ => False) (.of_below hb) h1.lt id⟩
  | _ + 1, _, _, _, ⟨b, s, c, e1, h1, h2⟩ => ⟨b, s, c, e1, h1.later (S := fun _ => False) (.of_below hb) h1.lt id, Chain.under hb h2⟩
/-- What is answered is a fault, wrapped so many times. -/
def Faulty (w : World) (d e p : Nat) (r : Ending) (w' : World) : Prop := ∃ v, r = .returned v ∧ Chain w' d v e p ∧ Below w.heap.size w w'

set_option maxHeartbeats 400000 in
set_option maxRecDepth 100000 in
theorem at_any (E P : Int) (e p : Nat) (hE : E = e) (hP : P = p) (w : World) :
    Calls Tryd.prog 105 #[.int .i64 E, .int .i64 P] w fun r w' => Faulty w 0 e p r w' := by
  subst hE hP
  have hr := RowAt.made w [.int .i64 (e : Int), .int .i64 (p : Int)] 147
  have hB := (Below.refl w.heap.size w).alloc (Nat.le_refl _) (.cells #[.int .i64 (e : Int), .int .i64 (p : Int)] 147)
  go_enter Tryd.func105, Tryd.ntmps105
  go_wp2
  go_ret
  exact ⟨_, rfl, ⟨_, rfl, hr⟩, hB⟩
set_option maxHeartbeats 400000 in
set_option maxRecDepth 100000 in
theorem within_nil (s : ByteArray) (w : World) :
    Calls Tryd.prog 104 #[.string s, .nilIface] w fun r w' => r = .returned .nilIface ∧ w' = w := by
  go_enter Tryd.func104, Tryd.ntmps104
  go_wp2
  go_ret
  exact ⟨rfl, rfl⟩
set_option maxHeartbeats 400000 in
set_option maxRecDepth 100000 in
theorem within_any (s : ByteArray) (d : Nat) (v : Value) (e p : Nat) (w : World) (h : Chain w d v e p) :
    Calls Tryd.prog 104 #[.string s, v] w fun r w' => Faulty w (d + 1) e p r w' := by
  have hr := RowAt.made w [.string s, v] 205
  have hB := (Below.refl w.heap.size w).alloc (Nat.le_refl _) (.cells #[.string s, v] 205)
  have hc := h.under hB
  obtain ⟨t, x, rfl⟩ := h.iface
  clear h
  go_enter Tryd.func104, Tryd.ntmps104
  go_wp2
  go_ret
  exact ⟨_, rfl, ⟨_, _, _, rfl, hr, hc⟩, hB⟩

theorem le_succ (l : List UInt8) : ∀ (n a : Nat), le l a (n + 1) = le l a n + 256 ^ n * bAt l (a + n)
  | 0, a => by simp [le]
  | n + 1, a => by
    have h := le_succ l n (a + 1)
    show bAt l a + 256 * le l (a + 1) (n + 1) = (bAt l a + 256 * le l (a + 1) n) + _
    rw [h, show a + 1 + n = a + (n + 1) by omega, Nat.pow_succ, Nat.mul_add]
    have : 256 * (256 ^ n * bAt l (a + (n + 1))) = 256 ^ n * 256 * bAt l (a + (n + 1)) := by rw [← Nat.mul_assoc, Nat.mul_comm 256]
    omega
theorem u64_or_lt {a b : Nat} (ha : a < 2 ^ 64) (hb : b < 2 ^ 64) : bits .or .u64 (a : Int) (b : Int) = ((a ||| b : Nat) : Int) := by
  show IntKind.u64.wrap ((BitVec.ofInt 64 (a : Int) ||| BitVec.ofInt 64 (b : Int)).toNat : Int) = _
  rw [BitVec.toNat_or, ofInt_u64' a ha, ofInt_u64' b hb, wrap_u64_lt _ (Nat.or_lt_two_pow ha hb)]
theorem put_byte {x y c : Nat} (hc : c < 8) (hx : x < 256 ^ c) (hy : y < 256) : bits .or .u64 (x : Int) (IntKind.u64.wrap ((y : Int) * 2 ^ (8 * c))) = ((x + 256 ^ c * y : Nat) : Int) ∧ x + 256 ^ c * y < 256 ^ (c + 1) := by
  have e : (256 : Nat) ^ c = 2 ^ (8 * c) := by rw [Nat.pow_mul]
  have h56 : 2 ^ (8 * c) ≤ 2 ^ 56 := Nat.pow_le_pow_right (by omega) (by omega)
  have hp : y * 2 ^ (8 * c) ≤ 255 * 2 ^ 56 := Nat.mul_le_mul (by omega) h56
  have ei : (y : Int) * 2 ^ (8 * c) = ((y * 2 ^ (8 * c) : Nat) : Int) := by simp
  rw [e] at hx ⊢
  have hsum : x + 2 ^ (8 * c) * y < 256 ^ (c + 1) := by
    have h1 : 2 ^ (8 * c) * y ≤ 2 ^ (8 * c) * 255 := Nat.mul_le_mul_left _ (by omega)
    have h2 : 256 ^ (c + 1) = 2 ^ (8 * c) * 256 := by rw [Nat.pow_succ, e]
    omega
  refine ⟨?_, hsum⟩
  rw [ei, wrap_u64_lt _ (by omega), u64_or_lt (by omega) (by omega)]
  have h3 := Nat.shiftLeft_add_eq_or_of_lt hx y
  rw [Nat.shiftLeft_eq] at h3
  rw [Nat.or_comm, ← h3, Nat.mul_comm y, Nat.add_comm]

set_option maxHeartbeats 1000000 in
set_option maxRecDepth 100000 in
theorem readNumber_any (bb bo n cap : Nat) (l : List UInt8) (hn : l.length = n) (hn8 : n ≤ 8) (w : World) (hb : Byt w bb bo l) :
    Calls Tryd.prog 154 #[.slice (some ⟨bb, bo, none⟩) n cap] w fun r w' => r = .returned (.int .u64 (le l 0 n : Nat)) ∧ w' = w := by
  go_enter Tryd.func154, Tryd.ntmps154
  go_wp2
  go_loop [3, 8] (fun vn vi => ∃ c x : Nat, c ≤ n ∧ vi = .int .i64 (c : Int) ∧ vn = .int .u64 (x : Int) ∧ x < 256 ^ c ∧ Hid (x = le l 0 c)) (fun _ i => n - (intOf i).toNat)
  case atStart => exact ⟨0, 0, by omega, rfl, rfl, by simp, rfl⟩
  case round =>
    obtain ⟨c, x, hc, rfl, rfl, hx, H⟩ := hrel
    by_cases hlt : c < n
    · have hcell := hb c (by omega)
      have hy := bAt_lt l c
      have H2 : Hid _ := le_succ l c 0
      rw [Nat.zero_add] at H2
      obtain ⟨y, ey⟩ : ∃ y, bAt l c = y := ⟨_, rfl⟩
      rw [ey] at hcell hy H2
      obtain ⟨h3, h4⟩ := put_byte (show c < 8 by omega) hx hy
      have H4 : Hid (x + 256 ^ c * y < 256 ^ (c + 1)) := h4
      have H5 : Hid (x + 256 ^ c * y = le l 0 (c + 1)) := by
        show _ = _
        rw [H2.out, H.out]
      clear ey hb h4 hx H H2
      obtain ⟨z, ez⟩ : ∃ z, x + 256 ^ c * y = z := ⟨_, rfl⟩
      rw [ez] at h3 H4 H5
      clear ez
      go_wp2
      go_round
      case rel => exact ⟨c + 1, z, by omega, by go_num, rfl, H4.out, H5⟩
      case measure => simp [intOf]; omega
    · obtain rfl : c = n := by omega
      clear hb hx
      go_wp2
      go_ret
      exact ⟨ret_u64 (by rw [H.out]), rfl⟩
end Go.Proofs.YtkpcmfgeanlcnaaDoor

namespace Go.Proofs.YtkpcmfgeanlcnaaDoor
open Go.RowKit Go.Deep

/-- What a Reading keeps. -/
structure Rd where
  k : Nat
  n : Nat
  i : Nat
  c : Nat
  vN : Value
  vS : Value
  vC : Value
  m : Nat
  ln : Nat
  tt : Nat
  nx : Nat
  pl : Nat
  vT : Value
  vF : Value
def Rd.cells (r : Rd) : List Value := [.int .i64 (r.k : Int), .int .i64 (r.n : Int), .int .i64 (r.i : Int), .int .i64 (r.c : Int), r.vN, r.vS, r.vC, .int .i64 (r.m : Int), .int .i64 (r.ln : Int), .int .i64 (r.tt : Int), .int .i64 (r.nx : Int), .int .i64 (r.pl : Int), r.vT, r.vF]
def RdAt (w : World) (rb : Nat) (r : Rd) : Prop := RowAt w rb r.cells 78

/-- How many bytes the next piece has. -/
def sizeR (nx c m ln cl : Nat) : Nat := if nx = 0 then 32 else if nx = 1 then m + 8 else if nx = 2 then min c (ln - cl) + 8 else 4

set_option maxHeartbeats 2000000 in
set_option maxRecDepth 100000 in
theorem size_any (rb : Nat) (r : Rd) (bc : Option Addr) (cl cc : Nat) (hC : r.vC = .slice bc cl cc) (hm : r.m ≤ 1000000) (hc : r.c ≤ 1000000) (hl : r.ln ≤ 1000000) (hcl : cl ≤ r.ln) (hnx : r.nx ≤ 3) (w : World) (h : RdAt w rb r) :
    Calls Tryd.prog 134 #[.pointer (some ⟨rb, 0, none⟩)] w fun q w' => q = .returned (.int .i64 (sizeR r.nx r.c r.m r.ln cl : Nat)) ∧ ∃ j, w' = w.drewN j := by
  obtain ⟨k, n, i, c, vN, vS, vC, m, ln, tt, nx, pl, vT, vF⟩ := r
  simp only at hC hm hc hl hcl hnx ⊢
  subst hC
  unfold RdAt Rd.cells at h
  have c3 := h.cell (i := 3) rfl
  have c6 := h.cell (i := 6) rfl
  have c7 := h.cell (i := 7) rfl
  have c8 := h.cell (i := 8) rfl
  have c10 := h.cell (i := 10) rfl
  simp only at c3 c6 c7 c8 c10
  clear h
  have hc4 : nx = 0 ∨ nx = 1 ∨ nx = 2 ∨ nx = 3 := by omega
  rcases hc4 with rfl | rfl | rfl | rfl
  · go_enter Tryd.func134, Tryd.ntmps134
    go_wp2
    go_ret
    exact ⟨rfl, 0, rfl⟩
  · go_enter Tryd.func134, Tryd.ntmps134
    go_wp2
    go_ret
    exact ⟨rfl, 0, rfl⟩
  · have HS : Hid (sizeR 2 c m ln cl = min c (ln - cl) + 8) := rfl
    rcases Nat.lt_or_ge (ln - cl) c with q | q
    · have q' : (ln : Int) - (cl : Int) < (c : Int) := by omega
      have HM : Hid ((min c (ln - cl) + 8 : Nat) = ln - cl + 8) := by show _ = _; omega
      go_enter Tryd.func134, Tryd.ntmps134
      go_wp2_with fail
      go_big_quiet (fail)
      go_wp2
      go_ret
      exact ⟨ret_i64 (by rw [HS.out, HM.out]; omega), _, rfl⟩
    · have q' : (c : Int) ≤ (ln : Int) - (cl : Int) := by omega
      have HM : Hid ((min c (ln - cl) + 8 : Nat) = c + 8) := by show _ = _; omega
      go_enter Tryd.func134, Tryd.ntmps134
      go_wp2_with fail
      go_big_quiet (fail)
      go_wp2
      go_ret
      exact ⟨ret_i64 (by rw [HS.out, HM.out]; omega), _, rfl⟩
  · go_enter Tryd.func134, Tryd.ntmps134
    go_wp2
    go_ret
    exact ⟨rfl, 0, rfl⟩

theorem RowAt.drewN {w : World} {b : Nat} {cs : List Value} {t : TypeId} (h : RowAt w b cs t) (j : Nat) : RowAt (w.drewN j) b cs t := h
section
variable (rb : Nat) (r : Rd) (bc : Option Addr) (cl cc : Nat) (hC : r.vC = .slice bc cl cc) (hm : r.m ≤ 1000000) (hc : r.c ≤ 1000000) (hl : r.ln ≤ 1000000) (hcl : cl ≤ r.ln) (hnx : r.nx ≤ 3) (bt : Option Addr) (tl ct : Nat) (hT : r.vT = .slice bt tl ct) (htl : tl ≤ 1000000000) (hpl : r.pl ≤ 1000000000000) (w : World) (h : RdAt w rb r)
set_option maxHeartbeats 2000000 in
set_option maxRecDepth 100000 in
include hC hm hc hl hcl hnx hT h in
theorem whole_yes (hs : sizeR r.nx r.c r.m r.ln cl ≤ tl) :
    Calls Tryd.prog 152 #[.pointer (some ⟨rb, 0, none⟩)] w fun q w' => q = .returned .nilIface ∧ ∃ j, w' = w.drewN j := by
  have K : ∀ j, Calls Tryd.prog 134 #[.pointer (some ⟨rb, 0, none⟩)] (w.drewN j) fun q w' => q = .returned (.int .i64 (sizeR r.nx r.c r.m r.ln cl : Nat)) ∧ ∃ n, w' = w.drewN n := fun j =>
    (size_any rb r bc cl cc hC hm hc hl hcl hnx (w.drewN j) (RowAt.drewN h j)).mono fun q w' x => ⟨x.1, by
      obtain ⟨i, hi⟩ := x.2
      exact ⟨j + i, by rw [hi]; simp [World.drewN, Nat.add_assoc]⟩⟩
  obtain ⟨z, ez⟩ : ∃ z, sizeR r.nx r.c r.m r.ln cl = z := ⟨_, rfl⟩
  simp only [ez] at K hs
  have c12 : w.cell? ⟨rb, 12, none⟩ = some (.slice bt tl ct) := by rw [← hT]; exact RowAt.cell h rfl
  have hs' : decide ((tl : Int) < (z : Int)) = false := by simp; omega
  have hs2 : (z : Int) ≤ (tl : Int) := by omega
  clear ez h hC hT
  go_enter Tryd.func152, Tryd.ntmps152
  go_wp2_with fail
  go_big_quiet (first | (go_at_call 134; exact (K _).mono (fun _ _ h => ⟨h.1, h.2⟩)))
  go_wp2
  go_ret
  exact ⟨rfl, _, rfl⟩
set_option maxHeartbeats 2000000 in
set_option maxRecDepth 100000 in
include hC hm hc hl hcl hnx hT htl hpl h in
theorem whole_no (hs : tl < sizeR r.nx r.c r.m r.ln cl) :
    Calls Tryd.prog 152 #[.pointer (some ⟨rb, 0, none⟩)] w fun q w' => Faulty w 0 4 (r.pl + tl) q w' := by
  have K : ∀ j, Calls Tryd.prog 134 #[.pointer (some ⟨rb, 0, none⟩)] (w.drewN j) fun q w' => q = .returned (.int .i64 (sizeR r.nx r.c r.m r.ln cl : Nat)) ∧ ∃ n, w' = w.drewN n := fun j =>
    (size_any rb r bc cl cc hC hm hc hl hcl hnx (w.drewN j) (RowAt.drewN h j)).mono fun q w' x => ⟨x.1, by
      obtain ⟨i, hi⟩ := x.2
      exact ⟨j + i, by rw [hi]; simp [World.drewN, Nat.add_assoc]⟩⟩
  obtain ⟨z, ez⟩ : ∃ z, sizeR r.nx r.c r.m r.ln cl = z := ⟨_, rfl⟩
  simp only [ez] at K hs
  have c12 : w.cell? ⟨rb, 12, none⟩ = some (.slice bt tl ct) := by rw [← hT]; exact RowAt.cell h rfl
  have c11 : w.cell? ⟨rb, 11, none⟩ = some (.int .i64 (r.pl : Int)) := RowAt.cell h rfl
  have hs' : decide ((tl : Int) < (z : Int)) = true := by simp; omega
  have hs2 : (tl : Int) < (z : Int) := by omega
  obtain ⟨pl, epl⟩ : ∃ pl, r.pl = pl := ⟨_, rfl⟩
  rw [epl] at c11 hpl ⊢
  clear ez h hC hT epl
  go_enter Tryd.func152, Tryd.ntmps152
  go_wp2_with fail
  go_big_quiet (first | (go_at_call 134; exact (K _).mono (fun _ _ h => ⟨h.1, h.2⟩)))
  go_wp2_with fail
  have hwr : IntKind.i64.wrap ((pl : Int) + (tl : Int)) = (pl : Int) + (tl : Int) := IntWalk.i64_in _ (by omega)
  refine wp_region_tail 10 mixed (by kernel_rfl) ?_
  simp only [List.take_succ_cons, List.take_zero, List.drop_succ_cons, List.drop_zero]
  repeat still_step
  refine wpStill_nil ?_
  go_wp2_with (first | (go_at_call 105; refine (at_any _ _ 4 (pl + tl) (by rfl) (by simp) _).mono ?_; rintro q w2 ⟨v, rfl, h1, h2⟩))
  go_ret
  refine ⟨_, rfl, h1, ?_⟩
  exact ⟨h2.os, h2.tape, h2.output, h2.size, h2.block⟩
end
end Go.Proofs.YtkpcmfgeanlcnaaDoor

namespace Go.Proofs.YtkpcmfgeanlcnaaDoor
open Go.RowKit Go.Deep

/-- The first byte that is there and is not the word's. -/
def begE (l ws : List UInt8) : Option Nat := (List.range (min ws.length l.length)).find? fun i => decide (bAt l i ≠ (ws.getD i 0).toNat)
def Begins (w : World) (l ws : List UInt8) (pl : Nat) (q : Ending) (w' : World) : Prop :=
  match begE l ws with
  | none => q = .returned .nilIface ∧ ∃ j, w' = w.drewN j
  | some i => Faulty w 0 5 (pl + i) q w'
theorem begE_some {l ws : List UInt8} {c : Nat} (hc : c < min ws.length l.length) (h : ∀ i, i < c → bAt l i = (ws.getD i 0).toNat) (hne : bAt l c ≠ (ws.getD c 0).toNat) : begE l ws = some c := by
  unfold begE
  rw [List.find?_range_eq_some]
  exact ⟨by simpa using hne, by simpa using hc, fun j hj => by simpa using h j hj⟩
theorem begE_none {l ws : List UInt8} (h : ∀ i, i < min ws.length l.length → bAt l i = (ws.getD i 0).toNat) : begE l ws = none := by
  unfold begE
  rw [List.find?_eq_none]
  intro i hi
  have := h i (by simpa using hi)
  simpa using this
theorem Faulty.of_drewN {w w' : World} {j d e p : Nat} {q : Ending} (h : Faulty (w.drewN j) d e p q w') : Faulty w d e p q w' := by
  obtain ⟨v, h1, h2, h3⟩ := h
  exact ⟨v, h1, h2, ⟨h3.os, h3.tape, h3.output, h3.size, h3.block⟩⟩

set_option maxHeartbeats 4000000 in
set_option maxRecDepth 100000 in
theorem begins_any (rb : Nat) (r : Rd) (l ws : List UInt8) (hw : ws.length ≤ 100) (hl : l.length ≤ 1000000000) (hpl : r.pl ≤ 1000000000000) (w : World) (h : RdAt w rb r) (hT : Lies w r.vT (u8V l)) :
    Calls Tryd.prog 148 #[.pointer (some ⟨rb, 0, none⟩), .string ⟨ws.toArray⟩] w fun q w' => Begins w l ws r.pl q w' := by
  obtain ⟨bt, ct, ev, hct, hc⟩ := hT
  rw [u8V_length] at ev hct
  have c12 : w.cell? ⟨rb, 12, none⟩ = some (.slice bt l.length ct) := by rw [← ev]; exact RowAt.cell h rfl
  have c11 : w.cell? ⟨rb, 11, none⟩ = some (.int .i64 (r.pl : Int)) := RowAt.cell h rfl
  obtain ⟨pl, epl⟩ : ∃ pl, r.pl = pl := ⟨_, rfl⟩
  rw [epl] at c11 hpl ⊢
  have hsz := ba_size ws
  clear h ev epl
  have idx := index_str ws
  rcases Nat.lt_or_ge l.length ws.length with q0 | q0
  all_goals
    first | (have EM : Hid (min ws.length l.length = l.length) := (show _ = _ by omega)) | (have EM : Hid (min ws.length l.length = ws.length) := (show _ = _ by omega))
    go_enter Tryd.func148, Tryd.ntmps148
    go_wp2
    go_loopw [14] (fun vi wr => ∃ c j : Nat, c ≤ min ws.length l.length ∧ vi = .int .i64 (c : Int) ∧ wr = w.drewN j ∧ Hid (∀ i, i < c → bAt l i = (ws.getD i 0).toNat)) (fun i _ => min ws.length l.length - (intOf i).toNat)
    case atStart => exact ⟨0, 0, by omega, rfl, rfl, fun i hi => absurd hi (by omega)⟩
    case round =>
      obtain ⟨c, j, hcm, rfl, rfl, H⟩ := hrel
      by_cases hlt : c < min ws.length l.length
      · obtain ⟨b, off, rfl, hcell⟩ := hc c _ (u8V_get (by omega))
        have hy := bAt_lt l c
        have hz : (ws.getD c 0).toNat < 256 := UInt8.toNat_lt _
        have hix := idx c (by omega)
        obtain ⟨y, ey⟩ : ∃ y, bAt l c = y := ⟨_, rfl⟩
        obtain ⟨z, ez⟩ : ∃ z, (ws.getD c 0).toNat = z := ⟨_, rfl⟩
        rw [ey] at hcell hy
        rw [ez] at hix hz
        have EY : Hid (bAt l c = y) := ey
        have EZ : Hid ((ws.getD c 0).toNat = z) := ez
        clear ey ez hc idx
        by_cases q : y = z
        · subst q
          go_wp2_with fail
          go_big_quiet (fail)
          go_wp2
          go_roundw
          case rel =>
            refine ⟨c + 1, _, by omega, by go_num, rfl, fun i hi => ?_⟩
            rcases Nat.lt_or_ge i c with h1 | h1
            · exact H.out i h1
            · obtain rfl : i = c := by omega
              rw [EY.out, EZ.out]
          case measure => simp [intOf]; omega
        · have q' : ((y : Int) == (z : Int)) = false := by simp; omega
          have q2 : ((y : Int) != (z : Int)) = true := by simp; omega
          have HB : Hid (begE l ws = some c) := begE_some (by rw [EM.out]; omega) H.out (by rw [EY.out, EZ.out]; exact q)
          have hwr : IntKind.i64.wrap ((pl : Int) + (c : Int)) = (pl : Int) + (c : Int) := IntWalk.i64_in _ (by omega)
          go_wp2_with fail
          go_big_quiet (fail)
          go_wp2_with (first | (go_at_call 105; refine (at_any _ _ 5 (pl + c) (by rfl) (by simp) _).mono ?_; rintro q w2 ⟨v, rfl, g1, g2⟩))
          go_ret
          unfold Begins
          rw [HB.out]
          exact Faulty.of_drewN ⟨_, rfl, g1, g2⟩
      · have HB : Hid (begE l ws = none) := begE_none (fun i hi => H.out i (by rw [EM.out] at hi; omega))
        clear hc idx
        go_wp2
        go_ret
        unfold Begins
        rw [HB.out]
        exact ⟨rfl, _, rfl⟩
end Go.Proofs.YtkpcmfgeanlcnaaDoor

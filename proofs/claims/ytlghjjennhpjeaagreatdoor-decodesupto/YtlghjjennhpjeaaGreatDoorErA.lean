/-
  How the document reads a shard: the frames, one behind the other.
-/
import Derived.Test.YtlghjjennhpjeaaGreatDoorScanI
import Derived.Deep.RegionHeld
import Derived.Deep.RegionLaw
import Derived.Test.YtlghjjennhpjeaaGreatDoorScanF
import Derived.Test.YtlghjjennhpjeaaGreatDoorEnS
import Derived.WalkKit
import Derived.LaidEql
import Derived.Stop.Asserts
import Derived.RowKitTokens
import Derived.Handy
namespace Go.Proofs.YtlghjjennhpjeaaGreatDoor
open Go.RowKit Go.Deep

/-- The first byte that stands for none of the data and is not 0. -/
def padE (en : Int) (a m : Nat) : List UInt8 → Option (Nat × Nat)
  | [] => none
  | b :: p => if (m : Int) < en ∨ b.toNat = 0 then padE en (a + 1) (m + 1) p else some (8, a)
theorem padE_snoc (en : Int) (b : UInt8) : ∀ (p : List UInt8) (a m : Nat), padE en a m (p ++ [b]) = orE (padE en a m p) (mustE (decide (((m + p.length : Nat) : Int) < en ∨ b.toNat = 0)) 8 (a + p.length))
  | [], a, m => by
    by_cases h : (m : Int) < en ∨ b.toNat = 0
    · simp [padE, orE, mustE, h]
    · simp [padE, orE, mustE, h]
  | c :: p, a, m => by
    simp only [List.cons_append, padE, List.length_cons]
    by_cases h : (m : Int) < en ∨ c.toNat = 0
    · rw [if_pos h, if_pos h, padE_snoc en b p (a + 1) (m + 1)]
      rw [show m + 1 + p.length = m + (p.length + 1) by omega, show a + 1 + p.length = a + (p.length + 1) by omega]
    · rw [if_neg h, if_neg h]; rfl
theorem errs_padE (en : Int) : ∀ (p : List UInt8) (a m : Nat), Errs (padE en a m p)
  | [], _, _ => errs_none
  | b :: p, a, m => by
    unfold padE
    split
    · exact errs_padE en p _ _
    · exact errs_some (by decide)

/-- What is wrong with the frames that are still to come, or the whole column and the place behind it. -/
def framesE (l : List UInt8) (low : Bool) (ch ln : Nat) (en : Int) : Nat → Nat → List UInt8 → Except (Nat × Nat) (List UInt8 × Nat)
  | 0, a, col => .ok (col, a)
  | f + 1, a, col =>
    if ln ≤ col.length then .ok (col, a)
    else match sealE l a (min (ln - col.length) ch) with
      | some e => .error e
      | none => match (if low then padE en a col.length (part l a (min (ln - col.length) ch)) else none) with
        | some e => .error e
        | none => framesE l low ch ln en f (a + min (ln - col.length) ch + 8) (col ++ part l a (min (ln - col.length) ch))

theorem step_append_own {P : Program} {ops : Array Oper} {o : Oper} {a : Act} {w : World} {K : Act → World → Prop} {Q : Exit → Act → World → Prop} {E : Prop}
    (hg : o.guard = none) (s x : Operand) (t : TypeId) (hop : o.op = Op.call { callee := Callee.builtin Builtin.append, args := #[s, x], argTypes := #[t, t] })
    (base : Nat) (e : TypeId) (i : TypeInfo) (z : Value) (size bytes : Nat) (h1 : P.underlying t = some (.slice e)) (h2 : P.info? e = some i) (h3 : i.zero = some z) (h4 : i.size = size) (h5 : i.bytes = bytes) (h6 : z.cells.size = size) (h7 : 0 < size)
    (v : Value) (n : Nat) (xs : List Value) (hs : a.eval s = v) (hown : w.ownsRow base e size v n xs)
    (ad : Addr) (m c : Nat) (news : List Value) (hx : a.eval x = .slice (some ad) m c) (hn : news.length = m * size) (hc : ∀ j u, news[j]? = some u → w.cell? (ad.add j) = some u) (h1c : ∀ u ∈ news, u.oneCell' = true)
    (b1 : n + m ≤ maxLen) (b2 : (n + m) * bytes ≤ 140737488355328) (hbase : base ≤ w.heap.size)
    (hK : ∀ v' w', w'.ownsRow base e size v' (n + m) (xs ++ news) → w.grownBy w' v.ownBlock → K (a.put o.dst v') w') :
    if Region.wanted o (yielded ops a.tmps) = true then Oper.wp P o a w K Q else E := by
  have hw : Region.wanted o (yielded ops a.tmps) = true := by simp [Region.wanted, hg]
  rw [if_pos hw]
  obtain ⟨v', w', hr, r1, r2, _⟩ := run_append_own_at (P := P) w base t o.type e i z size bytes h1 h2 h3 h4 h5 h6 h7 v n xs hown ad m c news hn hc h1c b1 b2 hbase
  unfold Oper.wp
  simp [execOp, hop, resolve, invoke, builtin, hs, hx, hr, Result.andThen]
  exact hK v' w' r1 r2

/-- The state of the loop over the frames. -/
structure FrInv (w : World) (sb xb bb bo cap : Nat) (l : List UInt8) (k n i ch : Nat) (vN vS vC : Value) (a : Nat) (col : List UInt8) (B : Nat) (r : Option (Nat × Nat)) (wr : World) : Prop where
  but : But B (fun k => k = sb ∨ k = xb) w wr
  sc : ScR wr sb (.slice (some ⟨bb, bo, none⟩) l.length cap) a r
  sh : ShX wr xb k n i ch vN vS vC
  oc : wr.ownsRow B 5 1 vC col.length (u8V col)
theorem FrInv.step {w : World} {sb xb bb bo cap : Nat} {l : List UInt8} {k n i ch : Nat} {vN vS vC : Value} {a a' : Nat} {col : List UInt8} {B : Nat} {r r' : Option (Nat × Nat)} {wr w' : World} (I : FrInv w sb xb bb bo cap l k n i ch vN vS vC a col B r wr)
    (hb : But wr.heap.size (· = sb) wr w') (hs : ScR w' sb (.slice (some ⟨bb, bo, none⟩) l.length cap) a' r') (hsb : sb < B) (hxs : xb ≠ sb) (hBw : B ≤ wr.heap.size) : FrInv w sb xb bb bo cap l k n i ch vN vS vC a' col B r' w' :=
  ⟨I.but.trans (hb.mono hBw (fun _ x => .inl x)), hs, I.sh.later hb I.sh.row.lt hxs,
   owns_later I.oc (fun g hg => hb.block g ((I.oc.lt g hg).2) (by have := (I.oc.lt g hg).1; omega))⟩

section
variable (sb xb bb bo cap : Nat) (hbs : bb ≠ sb) (hbx : bb ≠ xb) (hxs : xb ≠ sb) (l : List UInt8) (hl : l.length < 2 ^ 60) (hcap : l.length ≤ cap) (k n i ch at0 : Nat) (hk1 : 1 ≤ k) (hk2 : k ≤ 128) (hi : i < 128) (vN vS : Value) (zs : List Nat) (hz : ∀ j, zs.getD j 0 < 2 ^ 63) (hzl : zs.length < 2 ^ 60)
    (ln : Nat) (hln : ln ≤ 65537) (w : World) (hx : ShX w xb k n i ch vN vS (.slice none 0 0)) (hS : Hold w vS (natV zs)) (hb : Byt w bb bo l) (hbb : bb < w.heap.size)

theorem lengthS_le {k : Nat} (hk : 1 ≤ k) (zs : List Nat) : lengthS k zs ≤ 65537 := by
  rw [lengthS_eq hk]
  have h1 := totalS_le zs
  have h2 := Nat.div_le_self (totalS zs) k
  split
  · rename_i h
    rcases Nat.eq_or_lt_of_le hk with rfl | h3
    · simp at h
    · have h4 : totalS zs / k ≤ totalS zs / 2 := Nat.div_le_div_left h3 (by omega)
      omega
  · omega

set_option maxHeartbeats 4000000 in
set_option maxRecDepth 100000 in
include hk1 hk2 hz hzl hx hS in
theorem frames_err (e : Nat × Nat) (h : ScR w sb (.slice (some ⟨bb, bo, none⟩) l.length cap) at0 (some e)) :
    Calls Tryz.prog 33 #[.pointer (some ⟨sb, 0, none⟩), .pointer (some ⟨xb, 0, none⟩), .int .i64 (ln : Int)] w fun q w' => q = .returned (.tuple #[]) ∧ w'.heap = w.heap ∧ But w.heap.size (fun k => k = sb ∨ k = xb) w w' := by
  have x0 := hx.row.cell (i := 0) rfl
  have x2 := hx.row.cell (i := 2) rfl
  have x5 := hx.row.cell (i := 5) rfl
  have x6 := hx.row.cell (i := 6) rfl
  have e0 : e.1 ≠ 0 := h.errs e rfl
  have c2 : w.cell? ⟨sb, 2, none⟩ = some (.int .i64 (e.1 : Int)) := h.scn.c2
  have hE : ((e.1 : Int) == 0) = false := by simp; omega
  have hT := totalS_le zs
  have hL := lengthS_le hk1 zs
  obtain ⟨t, et⟩ : ∃ t, totalS zs = t := ⟨_, rfl⟩
  obtain ⟨L, eL⟩ : ∃ L, lengthS k zs = L := ⟨_, rfl⟩
  have ET : Hid (totalS zs = t) := et
  have EL : Hid (lengthS k zs = L) := eL
  rw [et] at hT
  rw [eL] at hL
  clear et eL e0
  have cT : ∀ nq, Calls Tryz.prog 62 #[vS] (w.drewN nq) fun r w' => r = .returned (.int .i64 (t : Int)) ∧ w' = w.drewN nq := fun nq => by
    have := total_any vS zs hz hzl (w.drewN nq) (hS.heap rfl)
    rw [ET.out] at this
    exact this
  have cL : ∀ nq, Calls Tryz.prog 32 #[.int .i64 (k : Int), vS] (w.drewN nq) fun r w' => r = .returned (.int .i64 (L : Int)) ∧ w' = w.drewN nq := fun nq => by
    have := length_any (k : Int) k rfl hk1 (by omega) vS zs hz hzl (w.drewN nq) (hS.heap rfl)
    rw [EL.out] at this
    exact this
  go_enter Tryz.func33, Tryz.ntmps33
  go_wp2
  go_quiet (first | (go_at_call 62; exact Calls.quiet_of_same (cT _)) | (go_at_call 32; exact Calls.quiet_of_same (cL _)))
  clear cT cL
  go_wp2
  go_loopw [7, 8, 9] (fun _ _ _ wr => wr = w.drewN nq) (fun _ _ _ _ => 1)
  case atStart => rfl
  case round =>
    obtain rfl := hrel
    by_cases h0 : 0 < ln
    · go_wp2
      go_end0
      exact ⟨rfl, rfl, (But.refl _ _ _).drewN _⟩
    · go_wp2
      go_end0
      exact ⟨rfl, rfl, (But.refl _ _ _).drewN _⟩

theorem owns_slice {w : World} {base e n : Nat} {v : Value} {xs : List Value} (h : w.ownsRow base e 1 v n xs) : ∃ ba cap, v = .slice ba n cap := by
  rcases h.2 with ⟨h1, h0⟩ | ⟨g, c, _, h1, _⟩
  · exact ⟨none, 0, by rw [h1, h0]⟩
  · exact ⟨_, c, h1⟩

set_option maxHeartbeats 400000 in
set_option maxRecDepth 100000 in
theorem must_true (sb : Nat) (X Y : Int) (w : World) :
    Calls Tryz.prog 31 #[.pointer (some ⟨sb, 0, none⟩), .bool true, .int .i64 X, .int .i64 Y] w fun q w' => q = .returned (.tuple #[]) ∧ w' = w := by
  go_enter Tryz.func31, Tryz.ntmps31
  go_wp2
  go_end0
  exact ⟨rfl, rfl⟩
set_option maxHeartbeats 400000 in
set_option maxRecDepth 100000 in
theorem must_late (sb : Nat) (X Y : Int) (e : Nat) (he : e ≠ 0) (w : World) (h : w.cell? ⟨sb, 2, none⟩ = some (.int .i64 (e : Int))) :
    Calls Tryz.prog 31 #[.pointer (some ⟨sb, 0, none⟩), .bool false, .int .i64 X, .int .i64 Y] w fun q w' => q = .returned (.tuple #[]) ∧ w' = w := by
  have he' : ((e : Int) == 0) = false := by simp; omega
  clear he
  go_enter Tryz.func31, Tryz.ntmps31
  go_wp2
  go_end0
  go_wp2
  go_end0
  exact ⟨rfl, rfl⟩

/-- What is held behind the frames. -/
def FramesPost (w : World) (sb xb bb bo cap : Nat) (l : List UInt8) (k n i ch : Nat) (vN vS : Value) (RES : Except (Nat × Nat) (List UInt8 × Nat)) (w' : World) : Prop :=
  match RES with
  | .error e => ∃ vC a col, FrInv w sb xb bb bo cap l k n i ch vN vS vC a col w.heap.size (some e) w'
  | .ok (col, a) => ∃ vC, FrInv w sb xb bb bo cap l k n i ch vN vS vC a col w.heap.size none w'

theorem FrInv.drewN {w : World} {sb xb bb bo cap : Nat} {l : List UInt8} {k n i ch : Nat} {vN vS vC : Value} {a : Nat} {col : List UInt8} {B : Nat} {r : Option (Nat × Nat)} {wr : World} (I : FrInv w sb xb bb bo cap l k n i ch vN vS vC a col B r wr) (nq : Nat) : FrInv w sb xb bb bo cap l k n i ch vN vS vC a col B r (wr.drewN nq) :=
  ⟨I.but.drewN nq, I.sc.heap rfl, ⟨I.sh.row⟩, owns_later I.oc (fun _ _ => rfl)⟩
theorem FrInv.setAt {w : World} {sb xb bb bo cap : Nat} {l : List UInt8} {k n i ch : Nat} {vN vS vC : Value} {a : Nat} {col : List UInt8} {B : Nat} {r : Option (Nat × Nat)} {wr : World} (I : FrInv w sb xb bb bo cap l k n i ch vN vS vC a col B r wr) (x : Nat) (hsb : sb < B) (hxs : xb ≠ sb) (hBw : B ≤ wr.heap.size) : FrInv w sb xb bb bo cap l k n i ch vN vS vC x col B r (wr.setCell ⟨sb, 1, none⟩ (.int .i64 (x : Int))) :=
  I.step (But.setCell (S := (· = sb)) (p := ⟨sb, 1, none⟩) (But.refl _ _ _) (.inr rfl) _) (I.sc.setAt x) hsb hxs hBw
theorem fr_held {w : World} {sb xb bb bo cap : Nat} {l : List UInt8} {k n i ch : Nat} {vN vS vC : Value} {a : Nat} {col : List UInt8} {B : Nat} {r r' : Option (Nat × Nat)} {wr w' : World} {g j : Nat} {u : Value} (I : FrInv w sb xb bb bo cap l k n i ch vN vS vC a col B r wr)
    (hb : But wr.heap.size (· = sb) wr w') (hs : ScR w' sb (.slice (some ⟨bb, bo, none⟩) l.length cap) a r') (hxs : xb ≠ sb) (hgs : g ≠ sb) (hg : g < wr.heap.size) (hc : wr.cell? ⟨g, j, none⟩ = some u) :
    w'.cell? ⟨sb, 1, none⟩ = some (.int .i64 (a : Int)) ∧ w'.cell? ⟨xb, 6, none⟩ = some vC ∧ w'.cell? ⟨g, j, none⟩ = some u :=
  ⟨hs.scn.c1, (I.sh.later hb I.sh.row.lt hxs).row.cell rfl, (hb.cell (p := ⟨g, j, none⟩) hg hgs).trans hc⟩
theorem fr_meas {W : World} {xb c q p ln : Nat} {ba : Option Addr} (h : W.cell? ⟨xb, 6, none⟩ = some (.slice ba (c + q) p)) (hq : 1 ≤ q) (hc : c < ln) : (ln - match W.cell? ⟨xb, 6, none⟩ with | some (.slice _ n _) => n | _ => 0) < ln - c := by
  rw [h]
  simp only
  omega
theorem FrInv.stored {w : World} {sb xb bb bo cap : Nat} {l : List UInt8} {k n i ch : Nat} {vN vS vC : Value} {a q g2 p2 : Nat} {col pt : List UInt8} {B : Nat} {r : Option (Nat × Nat)} {w1 w2 : World} (I : FrInv w sb xb bb bo cap l k n i ch vN vS vC a col B r w1)
    (hs : ScR w1 sb (.slice (some ⟨bb, bo, none⟩) l.length cap) a r) (hb2 : But B (fun _ => False) w1 w2) (hpl : pt.length = q) (hown : w2.ownsRow B 5 1 (.slice (some ⟨g2, 0, none⟩) (col.length + q) p2) (col.length + q) (u8V col ++ u8V pt)) (hsb : sb < B) (hxb : xb < B) (hxs : xb ≠ sb) :
    FrInv w sb xb bb bo cap l k n i ch vN vS (.slice (some ⟨g2, 0, none⟩) (col.length + q) p2) a (col ++ pt) B r (w2.setCell ⟨xb, 6, none⟩ (.slice (some ⟨g2, 0, none⟩) (col.length + q) p2)) := by
  have hb3 : But B (· = xb) w1 (w2.setCell ⟨xb, 6, none⟩ (.slice (some ⟨g2, 0, none⟩) (col.length + q) p2)) := But.setCell (S := (· = xb)) (p := ⟨xb, 6, none⟩) (hb2.mono (Nat.le_refl _) (fun _ x => x.elim)) (.inr rfl) _
  refine ⟨I.but.trans (hb3.mono (Nat.le_refl _) (fun _ x => .inr x)), hs.later hb3 hsb (fun e => hxs e.symm), (I.sh.later hb2 hxb id).setC _, ?_⟩
  rw [List.length_append, hpl]
  have := ownsRow_setCell_below hown (a := ⟨xb, 6, none⟩) hxb (.slice (some ⟨g2, 0, none⟩) (col.length + q) p2)
  simpa [u8V] using this
theorem fr_grow {w : World} {sb xb bb bo cap : Nat} {l : List UInt8} {k n i ch : Nat} {vN vS vC : Value} {a : Nat} {col : List UInt8} {B : Nat} {r : Option (Nat × Nat)} {w1 w2 : World} {ba : Option Addr} {cl cc : Nat} (I : FrInv w sb xb bb bo cap l k n i ch vN vS vC a col B r w1) (ev : vC = .slice ba cl cc)
    (hBw : B ≤ w1.heap.size) (hsb : sb < B) (hxb : xb < B) (hg : w1.drew.grownBy w2 (Value.slice ba cl cc).ownBlock) :
    But B (fun _ => False) w1 w2 ∧ w2.cell? ⟨sb, 0, none⟩ = some (.slice (some ⟨bb, bo, none⟩) l.length cap) ∧ w2.cell? ⟨sb, 1, none⟩ = some (.int .i64 (a : Int)) ∧ w2.cell? ⟨xb, 6, none⟩ = some (.slice ba cl cc) ∧ w2.frozen? ⟨xb, 6, none⟩ = false := by
  subst ev
  have hb1 : But B (fun _ => False) w1 w2 := ((But.refl _ _ _).drew).grown hg hBw (fun g hg => (I.oc.lt g hg).1)
  have h1 := I.sc.later hb1 hsb id
  have h2 := I.sh.later hb1 hxb id
  exact ⟨hb1, h1.scn.c0, h1.scn.c1, h2.row.cell rfl, h2.row.frozen 6⟩
set_option maxHeartbeats 8000000 in
set_option maxRecDepth 100000 in
include hbs hbx hxs hl hcap hk1 hk2 hi hz hzl hln hx hS hb hbb in
theorem frames_ok (h : ScR w sb (.slice (some ⟨bb, bo, none⟩) l.length cap) at0 none) (hat : at0 < 2 ^ 58) (hl2 : l.length < 2 ^ 58) (hch1 : 1 ≤ ch) (hch2 : ch ≤ 65536) :
    Calls Tryz.prog 33 #[.pointer (some ⟨sb, 0, none⟩), .pointer (some ⟨xb, 0, none⟩), .int .i64 (ln : Int)] w fun q w' => q = .returned (.tuple #[]) ∧
      FramesPost w sb xb bb bo cap l k n i ch vN vS (framesE l (decide (i < k)) ch ln ((totalS zs : Int) - ((i * lengthS k zs : Nat) : Int)) ln at0 []) w' := by
  have hsb := h.lt
  have hxb : xb < w.heap.size := hx.row.lt
  have x0 := hx.row.cell (i := 0) rfl
  have x2 := hx.row.cell (i := 2) rfl
  have x5 := hx.row.cell (i := 5) rfl
  have hT := totalS_le zs
  have hL := lengthS_le hk1 zs
  obtain ⟨t, et⟩ : ∃ t, totalS zs = t := ⟨_, rfl⟩
  obtain ⟨L, eL⟩ : ∃ L, lengthS k zs = L := ⟨_, rfl⟩
  have ET : Hid (totalS zs = t) := et
  have EL : Hid (lengthS k zs = L) := eL
  rw [et] at hT
  rw [eL] at hL
  have hiL : i * L ≤ 128 * 65537 := Nat.mul_le_mul (by omega) hL
  obtain ⟨iL, eiL⟩ : ∃ iL, i * L = iL := ⟨_, rfl⟩
  have hmul : ((i : Int) * (L : Int)) = (iL : Int) := by rw [← eiL]; simp
  rw [eiL] at hiL
  rw [et, eL, eiL]
  clear et eL eiL
  have cT : ∀ nq, Calls Tryz.prog 62 #[vS] (w.drewN nq) fun r w' => r = .returned (.int .i64 (t : Int)) ∧ w' = w.drewN nq := fun nq => by
    have := total_any vS zs hz hzl (w.drewN nq) (hS.heap rfl)
    rw [ET.out] at this
    exact this
  have cL : ∀ nq, Calls Tryz.prog 32 #[.int .i64 (k : Int), vS] (w.drewN nq) fun r w' => r = .returned (.int .i64 (L : Int)) ∧ w' = w.drewN nq := fun nq => by
    have := length_any (k : Int) k rfl hk1 (by omega) vS zs hz hzl (w.drewN nq) (hS.heap rfl)
    rw [EL.out] at this
    exact this
  obtain ⟨RES, eR⟩ : ∃ RES, framesE l (decide (i < k)) ch ln ((t : Int) - (iL : Int)) ln at0 [] = RES := ⟨_, rfl⟩
  have HR : Hid (framesE l (decide (i < k)) ch ln ((t : Int) - (iL : Int)) ln at0 [] = RES) := eR
  rw [eR]
  clear eR
  go_enter Tryz.func33, Tryz.ntmps33
  go_wp2
  go_quiet (first | (go_at_call 62; exact Calls.quiet_of_same (cT _)) | (go_at_call 32; exact Calls.quiet_of_same (cL _)))
  clear cT cL
  go_wp2
  have hI : FrInv w sb xb bb bo cap l k n i ch vN vS (.slice none 0 0) at0 [] w.heap.size none (w.drewN nq) :=
    ⟨(But.refl _ _ _).drewN _, h.heap rfl, hx.later ((But.refl _ (fun _ => False) _).drewN _) hxb id, World.ownsRow_nil _ _ _ _⟩
  clear x0 x2 x5
  go_loopw [7, 8, 9] (fun _ _ _ wr => ∃ vC a col, col.length ≤ ln ∧ a < 2 ^ 58 ∧
      ((∃ f, ln - col.length ≤ f ∧ FrInv w sb xb bb bo cap l k n i ch vN vS vC a col w.heap.size none wr ∧ Hid (framesE l (decide (i < k)) ch ln ((t : Int) - (iL : Int)) f a col = RES)) ∨
       (∃ e, Hid (RES = .error e) ∧ FrInv w sb xb bb bo cap l k n i ch vN vS vC a col w.heap.size (some e) wr)) ∧ True) (fun _ _ _ wr => ln - (match wr.cell? ⟨xb, 6, none⟩ with | some (.slice _ n _) => n | _ => 0))
  case atStart => exact ⟨_, at0, [], by simp, hat, .inl ⟨ln, by simp, hI, HR⟩, trivial⟩
  case round =>
    obtain ⟨vC, a, col, hcl, ha, hst, _⟩ := hrel
    clear hI HR h hx
    rcases hst with ⟨f, hf, I, H⟩ | ⟨e, HE, I⟩
    · obtain ⟨ba, cc, ev⟩ := owns_slice I.oc
      have x6 := I.sh.row.cell (i := 6) rfl
      have x3 := I.sh.row.cell (i := 3) rfl
      have hw6 : (match wr.cell? ⟨xb, 6, none⟩ with | some (.slice _ n _) => n | _ => 0) = col.length := by rw [x6, ev]
      rw [ev] at x6
      have c2 : wr.cell? ⟨sb, 2, none⟩ = some (.int .i64 0) := I.sc.scn.c2
      have hbw := hb.later I.but hbb (by omega)
      have hBw := I.but.size
      have hsb2 := I.sc.lt
      have hbb2 : bb < wr.heap.size := by omega
      by_cases hlt : col.length < ln
      · obtain ⟨f', rfl⟩ : ∃ f', f = f' + 1 := ⟨f - 1, by omega⟩
        have H0 := H.out
        rw [framesE, if_neg (by omega)] at H0
        clear H
        obtain ⟨q, eq⟩ : ∃ q, min (ln - col.length) ch = q := ⟨_, rfl⟩
        have hq0 : 1 ≤ q ∧ q ≤ ln - col.length ∧ q ≤ ch := by omega
        rw [eq] at H0
        go_upto_if 56 with fail
        go_cut [7] from 30 to 148 (fun s7 wx => s7 = .int .i64 (q : Int) ∧ wx = wr)
        case first =>
          by_cases hgt : ch < ln - col.length
          · have hq : q = ch := by omega
            subst hq
            go_wp2
            go_meet
            exact ⟨rfl, rfl⟩
          · have hq : (ln : Int) - (col.length : Int) = (q : Int) := by omega
            go_wp2
            go_meet
            exact ⟨by first | rfl | rw [hq], rfl⟩
        case rest =>
          obtain ⟨rfl, rfl⟩ := hcut
          cases hse : sealE l a q with
          | some e =>
            rw [hse] at H0
            have HX : Hid (RES = .error e) := H0.symm
            have HS : Hid (sealE l a q = some e) := hse
            clear H0 hse
            go_wp2_with (first | (go_at_call 60; refine (seal_r (sb := sb) (bb := bb) (bo := bo) (cap := cap) (l := l) (at_ := a) (r := none) _ q (by rfl) (by omega) hbs hl hcap (by omega) (by exact I.sc) (by exact hbw) (by exact hbb2)).mono ?_; rintro q' w1 ⟨rfl, hS1, hB1⟩; rw [HS.out] at hS1; have c2' : w1.cell? ⟨sb, 2, none⟩ = some (.int .i64 (e.1 : Int)) := hS1.scn.c2; have E0 : ((e.1 : Int) == 0) = false := by (have := hS1.errs e rfl; simp; omega)))
            refine bodyPost_ret (results_none rfl _ _ _) rfl ?_
            refine ⟨rfl, ?_⟩
            rw [HX.out]
            exact ⟨vC, a, col, I.step hB1 hS1 hsb hxs hBw⟩
          | none =>
            rw [hse] at H0
            have HS : Hid (sealE l a q = none) := hse
            have hfit := sealE_len hse
            clear hse
            go_upto_region 8 with (first | (go_at_call 60; refine (seal_r (sb := sb) (bb := bb) (bo := bo) (cap := cap) (l := l) (at_ := a) (r := none) _ q (by rfl) (by omega) hbs hl hcap (by omega) (by exact I.sc) (by exact hbw) (by exact hbb2)).mono ?_; rintro q' w1 ⟨rfl, hS1, hB1⟩; rw [HS.out] at hS1; have c2' : w1.cell? ⟨sb, 2, none⟩ = some (.int .i64 0) := hS1.scn.c2; have x66 := (hB1.cell (p := ⟨xb, 6, none⟩) I.sh.row.lt hxs).trans x6))
            obtain ⟨i0, hi0, hz0, hz1, hz2⟩ := info_parts infoB8
            have I1 := I.step hB1 hS1 hsb hxs hBw
            have hBw1 := I1.but.size
            have k0 := hS1.scn.c0
            have k1 := hS1.scn.c1
            have hby : Byt w1 bb bo l := hbw.later hB1 hbb2 (by omega)
            have hsl := slice_part bb bo l.length cap (a : Int) ((a : Int) + (q : Int)) a (a + q) rfl (by simp) (by omega) (by omega) (by omega)
            rw [Nat.add_sub_cancel_left] at hsl
            have hpl : (part l a q).length = q := part_length (by omega)
            have hnews := (hby.part (a := a) (n := q) (by omega)).news
            have hoc : w1.drew.ownsRow w.heap.size 5 1 (.slice ba col.length cc) col.length (u8V col) := by
              rw [← ev]
              exact owns_later I1.oc (fun g _ => rfl)
            have hwr : IntKind.i64.wrap ((a : Int) + (q : Int)) = (a : Int) + (q : Int) := IntWalk.i64_in _ (by omega)
            have HW : Hid _ := hw6
            clear x6 x3 hw6 c2 c2'
            go_cut [] from 30 to 148 (fun wx => ∃ g2 p2, FrInv w sb xb bb bo cap l k n i ch vN vS (.slice (some ⟨g2, 0, none⟩) (col.length + q) p2) a (col ++ part l a q) w.heap.size none wx)
            case first =>
              go_region_law ((refine step_append_own rfl _ _ 24 rfl w.heap.size 5 i0 (.int .u8 0) 1 1 Tryz.underlying24 hi0 hz0 hz1 hz2 rfl (by decide) _ _ _ rfl hoc ⟨bb, bo + a, none⟩ q (cap - a) (u8V (part l a q)) rfl (by rw [u8V_length, hpl]; omega) hnews (u8V_one _) (by unfold maxLen; omega) (by omega) (by exact hBw1) ?_; intro v2 w2 hown2 hgrow2; obtain ⟨g2, p2, rfl⟩ := owns_some hown2 (by omega); obtain ⟨hb2, k0', k1', x6', f6'⟩ := fr_grow I1 ev hBw1 hsb hxb hgrow2))
              all_goals (go_wp2_with fail; go_meet; exact ⟨_, _, I1.stored hS1 hb2 hpl hown2 hsb hxb hxs⟩)
            case rest =>
            obtain ⟨g2, p2, I2⟩ := hcut
            clear hoc hnews hsl hwr hby k0 k1 I1 hBw1 hS1 hB1 x66 I hbw hBw hsb2 hbb2 ev
            have HP : Hid ((part l a q).length = q) := hpl
            have HG : Hid _ := H0
            clear hpl H0
            by_cases hik : i < k
            · have hik' : (i : Int) < (k : Int) := by omega
              have hdk : decide (i < k) = true := by simp; omega
              have HG2 : Hid ((match padE ((t : Int) - (iL : Int)) a col.length (part l a q) with | some e => .error e | none => framesE l (decide (i < k)) ch ln ((t : Int) - (iL : Int)) f' (a + q + 8) (col ++ part l a q)) = RES) := by
                have := HG.out
                rw [hdk] at this
                rw [hdk]
                exact this
              clear HG hdk
              go_wp2
              go_loopw [9] (fun vm wr => ∃ c, c ≤ q ∧ vm = .int .i64 ((col.length + c : Nat) : Int) ∧ FrInv w sb xb bb bo cap l k n i ch vN vS (.slice (some ⟨g2, 0, none⟩) (col.length + q) p2) a (col ++ part l a q) w.heap.size (padE ((t : Int) - (iL : Int)) a col.length ((part l a q).take c)) wr) (fun m _ => col.length + q - (intOf m).toNat)
              case atStart => exact ⟨0, by omega, rfl, by simpa [padE] using I2⟩
              case round =>
                obtain ⟨c, hc, rfl, J⟩ := hrel
                clear I2
                have x0 := J.sh.row.cell (i := 0) rfl
                have x2 := J.sh.row.cell (i := 2) rfl
                have x6 := J.sh.row.cell (i := 6) rfl
                have c1 := J.sc.scn.c1
                have hBw := J.but.size
                by_cases hcq : c < q
                · have hib : bAt (col ++ part l a q) (col.length + c) = bAt (part l a q) c := by
                    simp [bAt, List.getD_eq_getElem?_getD, List.getElem?_append_right]
                  have hoc := J.oc
                  rw [show (col ++ part l a q).length = col.length + q by rw [List.length_append, HP.out]] at hoc
                  have hcell := hoc.cellAt (col.length + c) (by omega)
                  obtain ⟨u, hu⟩ : ∃ u, (u8V (col ++ part l a q))[col.length + c]? = some u := ⟨_, List.getElem?_eq_getElem (by rw [u8V_length, List.length_append, HP.out]; omega)⟩
                  obtain ⟨_, rfl⟩ := u8V_at hu
                  rw [hu, hib] at hcell
                  have htk : (part l a q).take (c + 1) = (part l a q).take c ++ [(part l a q).getD c 0] := by
                    rw [List.take_succ_eq_append_getElem (by rw [HP.out]; omega)]
                    simp [List.getD_eq_getElem?_getD, List.getElem?_eq_getElem (show c < (part l a q).length by rw [HP.out]; omega)]
                  have hsn := padE_snoc ((t : Int) - (iL : Int)) ((part l a q).getD c 0) ((part l a q).take c) a col.length
                  rw [← htk, List.length_take, HP.out, Nat.min_eq_left (by omega)] at hsn
                  obtain ⟨y, ey⟩ : ∃ y, bAt (part l a q) c = y := ⟨_, rfl⟩
                  have ey' : ((part l a q).getD c 0).toNat = y := ey
                  rw [ey] at hcell
                  rw [ey'] at hsn
                  have HSN : Hid _ := hsn
                  clear hu hib hoc htk hsn ey ey'
                  generalize padE ((t : Int) - (iL : Int)) a col.length ((part l a q).take c) = rc at J HSN
                  have hBw2 := J.but.size
                  have hgl : g2 < wr.heap.size := (J.oc.lt g2 rfl).2
                  have hgs : g2 ≠ sb := by have := (J.oc.lt g2 rfl).1; omega
                  have hY : (a : Int) + ((col.length : Int) + (c : Int)) - (col.length : Int) = ((a + c : Nat) : Int) := by omega
                  have hwr1 : IntKind.i64.wrap ((a : Int) + ((col.length : Int) + (c : Int))) = (a : Int) + ((col.length : Int) + (c : Int)) := IntWalk.i64_in _ (by omega)
                  have hwr2 : IntKind.i64.wrap ((a : Int) + ((col.length : Int) + (c : Int)) - (col.length : Int)) = ((a : Int) + (c : Int)) := (IntWalk.i64_in _ (by omega)).trans (by omega)
                  have hwr3 : IntKind.i64.wrap ((a : Int) + (c : Int)) = (a : Int) + (c : Int) := IntWalk.i64_in _ (by omega)
                  have hi1 := index_at g2 0 (col.length + q) p2 ((col.length : Int) + (c : Int)) (col.length + c) (by simp) (by omega)
                  rw [Nat.zero_add] at hi1
                  by_cases hm : ((col.length : Int) + (c : Int)) < (t : Int) - (iL : Int)
                  · have EE : orE rc (mustE (decide (((col.length + c : Nat) : Int) < (t : Int) - (iL : Int) ∨ y = 0)) 8 (a + c)) = rc := by
                      rw [show decide (((col.length + c : Nat) : Int) < (t : Int) - (iL : Int) ∨ y = 0) = true from by simp; omega]
                      cases rc <;> rfl
                    have HEE : Hid _ := EE
                    clear EE
                    go_wp2_with fail
                    go_big_quiet (fail)
                    go_wp2_with fail
                    go_big_quiet (first | (go_at_call 31; exact (must_true _ _ _ _).mono (fun _ _ h => ⟨h.1, _, h.2⟩)))
                    go_wp2_with fail
                    go_roundw
                    case rel => exact ⟨c + 1, by omega, by go_num, by rw [HSN.out, HEE.out]; exact J.drewN _⟩
                    case measure => simp [intOf]; omega
                  · have hm' : decide (((col.length : Int) + (c : Int)) < (t : Int) - (iL : Int)) = false := by simp; omega
                    by_cases hy0 : y = 0
                    · have EE : orE rc (mustE (decide (((col.length + c : Nat) : Int) < (t : Int) - (iL : Int) ∨ y = 0)) 8 (a + c)) = rc := by
                        rw [show decide (((col.length + c : Nat) : Int) < (t : Int) - (iL : Int) ∨ y = 0) = true from by simp; omega]
                        cases rc <;> rfl
                      have HEE : Hid _ := EE
                      clear EE hm
                      subst hy0
                      go_wp2_with fail
                      go_big_quiet (fail)
                      go_wp2_with fail
                      go_big_quiet (first | (go_at_call 31; exact (must_true _ _ _ _).mono (fun _ _ h => ⟨h.1, _, h.2⟩)))
                      go_wp2_with fail
                      go_roundw
                      case rel => exact ⟨c + 1, by omega, by go_num, by rw [HSN.out, HEE.out]; exact J.drewN _⟩
                      case measure => simp [intOf]; omega
                    · have hyf : ((y : Int) == 0) = false := by simp; omega
                      cases rc with
                      | some e =>
                        have HEE : Hid (orE (some e) (mustE (decide (((col.length + c : Nat) : Int) < (t : Int) - (iL : Int) ∨ y = 0)) 8 (a + c)) = some e) := rfl
                        have E0 : e.1 ≠ 0 := J.sc.errs e rfl
                        have c2 : ∀ nq, (wr.drewN nq).cell? ⟨sb, 2, none⟩ = some (.int .i64 (e.1 : Int)) := fun _ => J.sc.scn.c2
                        clear hm
                        go_wp2_with fail
                        go_big_quiet (fail)
                        go_wp2_with fail
                        go_big_quiet (first | (go_at_call 31; exact (must_late _ _ _ e.1 E0 _ (c2 _)).mono (fun _ _ h => ⟨h.1, _, h.2⟩)))
                        go_wp2_with fail
                        go_roundw
                        case rel => exact ⟨c + 1, by omega, by go_num, by rw [HSN.out, HEE.out]; exact J.drewN _⟩
                        case measure => simp [intOf]; omega
                      | none =>
                        have HM : Hid (¬ ((col.length : Int) + (c : Int)) < (t : Int) - (iL : Int)) := hm
                        clear hm
                        go_wp2_with fail
                        go_big_quiet (fail)
                        go_wp2_with fail
                        go_region_held (fun w' => w'.cell? ⟨sb, 1, none⟩ = some (.int .i64 (a : Int)) ∧ w'.cell? ⟨xb, 6, none⟩ = some (.slice (some ⟨g2, 0, none⟩) (col.length + q) p2) ∧ w'.cell? ⟨g2, col.length + c, none⟩ = some (.int .u8 (y : Int))) (go_keep) ((go_at_call 31; refine (must_r (sb := sb) (at_ := a) (r := none) _ _ _ 8 (a + c) (by rfl) (by first | rfl | (rw [hwr3]; simp) | omega) (by decide) (by exact J.sc.heap rfl)).mono ?_; rintro q' w5 ⟨rfl, hS5, hB5⟩; obtain ⟨s1, s2, s3⟩ := fr_held (J.drewN _) hB5 hS5 hxs hgs hgl hcell))
                        go_wp2_with fail
                        go_roundw
                        case rel =>
                          refine ⟨c + 1, by omega, by go_num, ?_⟩
                          rw [HSN.out]
                          have h7 := HM.out
                          clear hwr1 hwr2 hwr3 hY hi1 hm' hyf
                          exact (J.drewN _).step hB5 (hS5.ok (by symm; simp; omega)) hsb hxs hBw2
                        case measure => simp [intOf]; omega
                · have e : c = q := by omega
                  subst e
                  have ht : (part l a c).take c = part l a c := List.take_of_length_le (by rw [HP.out]; omega)
                  rw [ht] at J
                  have f1 := RowAt.frozen J.sc.scn 1
                  clear ht x0 x2
                  go_wp2
                  go_quiet (fail)
                  go_wp2
                  have I3 := (J.drewN nq).setAt (a + c + 8) hsb hxs J.but.size
                  go_roundw
                  case rel =>
                    refine ⟨.slice (some ⟨g2, 0, none⟩) (col.length + c) p2, a + c + 8, col ++ part l a c, by rw [List.length_append, HP.out]; omega, by omega, ?_, trivial⟩
                    have h6 := HG2.out
                    cases hp : padE ((t : Int) - (iL : Int)) a col.length (part l a c) with
                    | none =>
                      rw [hp] at h6 I3
                      exact .inl ⟨f', by rw [List.length_append, HP.out]; omega, I3, h6⟩
                    | some e =>
                      rw [hp] at h6 I3
                      exact .inr ⟨e, h6.symm, I3⟩
                  case measure =>
                    rw [HW.out]
                    exact fr_meas (I3.sh.row.cell (i := 6) rfl) (by omega) (by omega)
            · have hik' : decide ((i : Int) < (k : Int)) = false := by simp; omega
              have hdk : decide (i < k) = false := by simp; omega
              have x0 := I2.sh.row.cell (i := 0) rfl
              have x2 := I2.sh.row.cell (i := 2) rfl
              have c1 := I2.sc.scn.c1
              have f1 := RowAt.frozen I2.sc.scn 1
              have hqq : (col.length : Int) < (col.length : Int) + (q : Int) := by omega
              have HG2 : Hid (framesE l (decide (i < k)) ch ln ((t : Int) - (iL : Int)) f' (a + q + 8) (col ++ part l a q) = RES) := by
                have := HG.out
                rw [hdk] at this
                rw [hdk]
                exact this
              clear HG hdk
              go_wp2
              go_loopw [9] (fun vm wr => vm = .int .i64 (col.length : Int) ∧ wr = wc) (fun _ _ => 1)
              case atStart => exact ⟨rfl, rfl⟩
              case round =>
                obtain ⟨rfl, rfl⟩ := hrel
                go_wp2
                go_quiet (fail)
                go_wp2
                have I3 := (I2.drewN nq).setAt (a + q + 8) hsb hxs I2.but.size
                go_roundw
                case rel => exact ⟨_, a + q + 8, col ++ part l a q, by rw [List.length_append, HP.out]; omega, by omega, .inl ⟨f', by rw [List.length_append, HP.out]; omega, I3, HG2⟩, trivial⟩
                case measure =>
                  rw [HW.out]
                  exact fr_meas (I3.sh.row.cell (i := 6) rfl) (by omega) (by omega)
      · have HX : Hid (RES = .ok (col, a)) := by
          have := H.out
          cases f with
          | zero => exact this.symm
          | succ f => rw [framesE, if_pos (by omega)] at this; exact this.symm
        clear H
        go_wp2
        go_end0
        exact ⟨rfl, by rw [HX.out]; exact ⟨vC, I⟩⟩
    · obtain ⟨ba, cc, ev⟩ := owns_slice I.oc
      have x6 := I.sh.row.cell (i := 6) rfl
      rw [ev] at x6
      have E0 : Hid (e.1 ≠ 0) := I.sc.errs e rfl
      have c2 : wr.cell? ⟨sb, 2, none⟩ = some (.int .i64 (e.1 : Int)) := I.sc.scn.c2
      have hE : ((e.1 : Int) == 0) = false := by have := E0.out; simp; omega
      by_cases hlt : col.length < ln
      · go_wp2
        go_end0
        exact ⟨rfl, by rw [HE.out]; exact ⟨vC, a, col, I⟩⟩
      · go_wp2
        go_end0
        exact ⟨rfl, by rw [HE.out]; exact ⟨vC, a, col, I⟩⟩
end
end Go.Proofs.YtlghjjennhpjeaaGreatDoor

/-
  How the document reads a shard: the whole.
-/
namespace Go.Proofs.YtlghjjennhpjeaaGreatDoor
open Go.RowKit Go.Deep

def magic2 : List UInt8 := [68, 79, 78, 69]
/-- What a shard tells. -/
structure Shd where
  k : Nat
  n : Nat
  i : Nat
  c : Nat
  names : List (List UInt8)
  sizes : List Nat
  col : List UInt8

/-- The head: what is wrong with it. -/
def headE (l : List UInt8) : Option (Nat × Nat) :=
  match orE (fixE l 0 magic1) (sealE l 0 24) with
  | some x => some x
  | none => headR none (le l 6 1) (le l 7 1) (le l 8 1) (le l 9 1) (le l 10 4) (le l 14 4) (le l 18 4) (le l 22 2)

/-- What is wrong with the bytes, and where; or the shard. -/
def parseE (l : List UInt8) : Except (Nat × Nat) Shd :=
  match headE l with
  | some e => .error e
  | none =>
    match namesE l (le l 14 4) with
    | .error e => .error e
    | .ok (ns, zs) =>
      if le l 18 4 = lengthS (le l 6 1) zs then
        match framesE l (decide (le l 8 1 < le l 6 1)) (le l 10 4) (le l 18 4) ((totalS zs : Int) - ((le l 8 1 * lengthS (le l 6 1) zs : Nat) : Int)) (le l 18 4) (32 + le l 14 4 + 8) [] with
        | .error e => .error e
        | .ok (col, a) =>
          match orE (fixE l a magic2) (mustE (decide (l.length ≤ a + 4)) 9 (a + 4)) with
          | some e => .error e
          | none => .ok ⟨le l 6 1, le l 7 1, le l 8 1, le l 10 4, ns, zs, col⟩
      else .error (7, 18)

theorem headR_none {k n i z c m ln zz : Nat} (h : headR none k n i z c m ln zz = none) : 1 ≤ k ∧ k ≤ 128 ∧ k ≤ n ∧ n ≤ 128 ∧ i < n ∧ z = 0 ∧ 1 ≤ c ∧ c ≤ 65536 ∧ 4 ≤ m ∧ m ≤ 300000 ∧ ln ≤ 65536 ∧ zz = 0 := by
  have key : ∀ {r : Option (Nat × Nat)} {ok : Bool} {x y : Nat}, orE r (mustE ok x y) = none → r = none ∧ ok = true := by
    intro r ok x y h
    cases r with
    | some _ => cases h
    | none => cases ok with
      | true => exact ⟨rfl, rfl⟩
      | false => cases h
  unfold headR at h
  obtain ⟨h, h8⟩ := key h
  obtain ⟨h, h7⟩ := key h
  obtain ⟨h, h6⟩ := key h
  obtain ⟨h, h5⟩ := key h
  obtain ⟨h, h4⟩ := key h
  obtain ⟨h, h3⟩ := key h
  obtain ⟨h, h2⟩ := key h
  obtain ⟨_, h1⟩ := key h
  simp only [decide_eq_true_eq] at *
  omega

theorem names_any (sb xb bb bo cap : Nat) (hbs : bb ≠ sb) (hbx : bb ≠ xb) (hxs : xb ≠ sb) (l : List UInt8) (hl : l.length < 2 ^ 60) (hcap : l.length ≤ cap) (m : Nat) (hm4 : 4 ≤ m) (hm : m ≤ 300000) (k n i ch at0 : Nat)
    (w : World) (h : ScR w sb (.slice (some ⟨bb, bo, none⟩) l.length cap) at0 none) (hx : ShX w xb k n i ch (.slice none 0 0) (.slice none 0 0) (.slice none 0 0)) (hb : Byt w bb bo l) (hbb : bb < w.heap.size) :
    Calls Tryz.prog 30 #[.pointer (some ⟨sb, 0, none⟩), .pointer (some ⟨xb, 0, none⟩), .int .i64 (m : Int)] w fun q w' => q = .returned (.tuple #[]) ∧ NamesPost w sb xb bb bo cap l m k n i ch w' := by
  cases hs : sealE l 32 m with
  | some e =>
    refine (names_bad sb xb bb bo cap hbs l hl hcap m hm4 hm at0 w h hb hbb e (by rw [hs]; rfl)).mono ?_
    rintro q w' ⟨h1, h2, h3⟩
    refine ⟨h1, h2, ?_⟩
    have : namesE l m = .error e := by unfold namesE; rw [hs]
    rw [this]
    exact h3
  | none =>
    by_cases hN : 1000 < le l 32 4
    · refine (names_bad sb xb bb bo cap hbs l hl hcap m hm4 hm at0 w h hb hbb (7, 32) (by rw [hs, if_pos rfl, show decide (le l 32 4 ≤ 1000) = false from by simp; omega]; rfl)).mono ?_
      rintro q w' ⟨h1, h2, h3⟩
      refine ⟨h1, h2, ?_⟩
      have : namesE l m = .error (7, 32) := by unfold namesE; rw [hs]; simp only; rw [if_pos hN]
      rw [this]
      exact h3
    · exact names_good sb xb bb bo cap hbs hbx hxs l hl hcap m hm4 hm k n i ch at0 w h hx hb hbb hs hN

def zeroShard : Value := .agg (shardL 0 0 0 0 (.slice none 0 0) (.slice none 0 0) (.slice none 0 0)).toArray
/-- What the call that reads a shard tells. -/
def ParsePost (l : List UInt8) (w : World) (q : Ending) (w' : World) : Prop :=
  Below w.heap.size w w' ∧
  match parseE l with
  | .error e => q = .returned (.tuple #[zeroShard, .int .i64 (e.1 : Int), .int .i64 (e.2 : Int)])
  | .ok s => ∃ vN vS vC, q = .returned (.tuple #[.agg (shardL s.k s.n s.i s.c vN vS vC).toArray, .int .i64 0, .int .i64 0]) ∧
      w'.ownsRow w.heap.size 9 1 vN s.names.length (strsV s.names) ∧ w'.ownsRow w.heap.size 3 1 vS s.sizes.length (natV s.sizes) ∧ w'.ownsRow w.heap.size 5 1 vC s.col.length (u8V s.col)

theorem results_cell_2 {P : Program} {fn : Func} {p u t : Tmp} {ty : TypeId} (h : fn.results = #[.cell p ty, .tmp u, .tmp t]) (tmps : Array Value) (w : World) (g : Nat) (et : TypeId) (cs : Array Value) (fr : Nat × Nat) (d : TypeDesc)
    (hp : tmps.getD p undef = .pointer (some ⟨g, 0, none⟩)) (hg : w.heap[g]? = some (.cells cs et fr))
    (hu : P.underlying ty = some d) (hd : (match d with | .struct _ | .array _ _ => true | _ => false) = true) (hi : (P.info? ty).map (·.size) = some cs.size) :
    (results fn tmps).run P w = .ok (.tuple #[.agg cs, tmps.getD u undef, tmps.getD t undef]) w := by
  have hp' : tmps[p]?.getD undef = .pointer (some ⟨g, 0, none⟩) := by simpa using hp
  simp [results, h, hp', asAddr, run_loadVar_row w g et ty cs fr d hg hu hd hi]

theorem head_cells {w2 : World} {sb : Nat} {v : Value} {a : Nat} {e : Nat × Nat} (h : ScR w2 sb v a (some e)) :
    (∀ o, (w2.alloc o).cell? ⟨sb, 2, none⟩ = some (.int .i64 (e.1 : Int))) ∧ (∀ o, (w2.alloc o).cell? ⟨sb, 3, none⟩ = some (.int .i64 (e.2 : Int))) ∧ ((e.1 : Int) == 0) = false := by
  have key : ∀ o, ScR (w2.alloc o) sb v a (some e) := fun o => h.later (S := fun _ => False) (But.alloc (But.refl _ _ _) (Nat.le_refl _) o) h.lt id
  refine ⟨fun o => (key o).scn.c2, fun o => (key o).scn.c3, ?_⟩
  have := h.errs e rfl
  simp
  omega
end Go.Proofs.YtlghjjennhpjeaaGreatDoor

/-
  archive.ofOneArchive.
-/
namespace Go.Proofs.YtlghjjennhpjeaaGreatDoor
open Go.RowKit Go.Deep

/-- Of one archive? -/
def oneA (s t : Shd) : Bool := ((s.k : Int) == (t.k : Int)) && ((s.n : Int) == (t.n : Int)) && ((s.c : Int) == (t.c : Int)) && decide (s.names = t.names) && decide (s.sizes = t.sizes)
/-- A shard's value. -/
def shQ (s : Shd) (vN vS vC : Value) : List Value := [.int .i64 (s.k : Int), .int .i64 (s.n : Int), .int .i64 (s.i : Int), .int .i64 (s.c : Int), vN, vS, vC]
set_option maxHeartbeats 2000000 in
set_option maxRecDepth 100000 in
theorem ofOne_any (s t : Shd) (vN vS vC vN' vS' vC' : Value) (w : World) (hN : Lies w vN (nameV s.names)) (hS : Lies w vS (natV s.sizes)) (hN' : Lies w vN' (nameV t.names)) (hS' : Lies w vS' (natV t.sizes)) (hl : s.names.length ≤ 1048576) (hl2 : s.sizes.length ≤ 1048576) :
    Calls Tryz.prog 48 #[.agg (shQ s vN vS vC).toArray, .agg (shQ t vN' vS' vC').toArray] w fun r w' => r = .returned (.bool (oneA s t)) ∧ Below w.heap.size w w' := by
  unfold shQ
  have b0 : Below w.heap.size w (w.alloc (.cells #[.int .i64 (s.k : Int), .int .i64 (s.n : Int), .int .i64 (s.i : Int), .int .i64 (s.c : Int), vN, vS, vC] 41)) := (Below.refl _ _).alloc (Nat.le_refl _) _
  have b1 := b0.alloc b0.size (.cells #[.int .i64 (t.k : Int), .int .i64 (t.n : Int), .int .i64 (t.i : Int), .int .i64 (t.c : Int), vN', vS', vC'] 41)
  have k1 := eqStr_any s.names t.names vN vN' _ (hN.below b1) (hN'.below b1) hl
  have k2 := fun m => eqInt_any s.sizes t.sizes vS vS' _ ((hS.below b1).drewN m) ((hS'.below b1).drewN m) hl2
  go_enter Tryz.func48, Tryz.ntmps48
  rcases h1 : ((s.k : Int) == (t.k : Int)) with _ | _
  · go_wp2
    go_ret
    exact ⟨by rw [oneA, h1]; rfl, b1⟩
  rcases h2 : ((s.n : Int) == (t.n : Int)) with _ | _
  · go_wp2
    go_ret
    exact ⟨by rw [oneA, h1, h2]; rfl, b1⟩
  rcases h3 : ((s.c : Int) == (t.c : Int)) with _ | _
  · go_wp2
    go_ret
    exact ⟨by rw [oneA, h1, h2, h3]; rfl, b1⟩
  rcases h4 : decide (s.names = t.names) with _ | _
  · rw [h4] at k1
    go_wp2_with (first | (go_at_call 71; (with_reducible refine k1.mono ?_); rintro r w2 ⟨rfl, hw2⟩; obtain ⟨m, hw2⟩ := hw2; obtain rfl := hw2.symm))
    go_ret
    exact ⟨by rw [oneA, h1, h2, h3, h4]; rfl, below_drewN b1 _⟩
  rw [h4] at k1
  go_wp2_with (first
    | (go_at_call 71; (with_reducible refine k1.mono ?_); rintro r w2 ⟨rfl, hw2⟩; obtain ⟨m, hw2⟩ := hw2; obtain rfl := hw2.symm)
    | (go_at_call 72; (with_reducible refine (k2 m).mono ?_); rintro r w3 ⟨rfl, hw3⟩; obtain ⟨m', hw3⟩ := hw3; obtain rfl := hw3.symm))
  go_ret
  exact ⟨by rw [oneA, h1, h2, h3, h4]; rfl, below_drewN b1 _⟩
end Go.Proofs.YtlghjjennhpjeaaGreatDoor

/-
  What errors.Is finds in a fault that is wrapped at most twice.
-/
namespace Go.Proofs.YtlghjjennhpjeaaGreatDoor
open Go.RowKit Go.Extern.Stop Go.Stop Go.Extern

/-- An error that is a fault, wrapped so many times. -/
def Chain (w : World) : Nat → Value → Nat → Nat → Prop
  | 0, v, e, p => ∃ b, v = .iface 74 (.pointer (some ⟨b, 0, none⟩)) ∧ RowAt w b [.int .i64 (e : Int), .int .i64 (p : Int)] 78
  | d + 1, v, e, p => ∃ b s c, v = .iface 116 (.pointer (some ⟨b, 0, none⟩)) ∧ RowAt w b [.string s, c] 118 ∧ Chain w d c e p
/-- The variable TooEarly holds an error of its own. -/
def Early (w : World) (a : Addr) : Prop := w.cell? ⟨0, 0, none⟩ = some (.iface 234 (.pointer (some a)))

theorem callTypeOf (v : Value) (w : World) : (callFunc 67 #[.iface 234 v]).run Tryz.prog w = .ok (.value (.iface 163 (.agg #[.pointer (some ⟨7, 234, none⟩)]))) w := by kernel_rfl
theorem callComparable (w : World) : (callFunc 184 #[.agg #[.pointer (some ⟨7, 234, none⟩)]]).run Tryz.prog w = .ok (.value (.bool true)) w := by kernel_rfl
theorem isComp : (Tryz.prog.info? 234).map (·.comparable) = some true := by kernel_rfl
theorem isSize : (Tryz.prog.info? 254).map (·.size) = some 1 := by kernel_rfl
theorem hasIsF (v : Value) (xT : TypeId) (w : World) : (Instr.typeAssert (.iface 74 v) xT 175 true).run Tryz.prog w = .ok (.tuple #[.iface 74 v, .bool true]) w := run_typeAssert_hasB Tryz.underlying175 (by kernel_rfl) v xT w
theorem noUnwrapF (v : Value) (xT : TypeId) (w : World) : (Instr.typeAssert (.iface 74 v) xT 170 true).run Tryz.prog w = .ok (.tuple #[.nilIface, .bool false]) w := run_typeAssert_lacksB Tryz.underlying170 (by kernel_rfl) (by kernel_rfl) v xT w
theorem noUnwrapsF (v : Value) (xT : TypeId) (w : World) : (Instr.typeAssert (.iface 74 v) xT 172 true).run Tryz.prog w = .ok (.tuple #[.nilIface, .bool false]) w := run_typeAssert_lacksB Tryz.underlying172 (by kernel_rfl) (by kernel_rfl) v xT w
theorem noIsW (v : Value) (xT : TypeId) (w : World) : (Instr.typeAssert (.iface 116 v) xT 175 true).run Tryz.prog w = .ok (.tuple #[.nilIface, .bool false]) w := run_typeAssert_lacksB Tryz.underlying175 (by kernel_rfl) (by kernel_rfl) v xT w
theorem hasUnwrapW (v : Value) (xT : TypeId) (w : World) : (Instr.typeAssert (.iface 116 v) xT 170 true).run Tryz.prog w = .ok (.tuple #[.iface 116 v, .bool true]) w := run_typeAssert_hasB Tryz.underlying170 (by kernel_rfl) v xT w

set_option maxHeartbeats 1000000 in
set_option maxRecDepth 100000 in
theorem faultIs_any (b : Nat) (a : Addr) (e p : Nat) (w : World) (h : RowAt w b [.int .i64 (e : Int), .int .i64 (p : Int)] 78) (hE : Early w a) :
    Calls Tryz.prog 176 #[.pointer (some ⟨b, 0, none⟩), .iface 234 (.pointer (some a))] w fun r w' => r = .returned (.bool (decide (e = 4))) ∧ w' = w := by
  obtain ⟨i, hi, hcmp⟩ := Option.map_eq_some_iff.1 isComp
  obtain ⟨j, hj, hjs⟩ := Option.map_eq_some_iff.1 isSize
  have heq := run_eql_iface_ptr_same (P := Tryz.prog) w a Tryz.underlying45 Tryz.underlying234 hi hcmp hj
  have c0 := h.cell (i := 0) rfl
  unfold Early at hE
  by_cases q : e = 4
  · subst q
    go_enter Tryz.func176, Tryz.ntmps176
    go_wp2
    go_ret
    exact ⟨rfl, rfl⟩
  · have q' : ((e : Int) == 4) = false := by simp; omega
    have HQ : Hid (decide (e = 4) = false) := decide_eq_false q
    clear q
    go_enter Tryz.func176, Tryz.ntmps176
    go_wp2
    go_ret
    exact ⟨ret_bool' (by rw [HQ.out]), rfl⟩
set_option maxHeartbeats 1000000 in
set_option maxRecDepth 100000 in
theorem unwrap_any (b : Nat) (s : ByteArray) (c : Value) (w : World) (h : RowAt w b [.string s, c] 118) :
    Calls Tryz.prog 178 #[.pointer (some ⟨b, 0, none⟩)] w fun r w' => r = .returned c ∧ w' = w := by
  have c1 := h.cell (i := 1) rfl
  go_enter Tryz.func178, Tryz.ntmps178
  go_wp2
  go_ret
  exact ⟨rfl, rfl⟩

set_option maxHeartbeats 2000000 in
set_option maxRecDepth 100000 in
theorem is0 (b : Nat) (a : Addr) (e p : Nat) (w : World) (h : RowAt w b [.int .i64 (e : Int), .int .i64 (p : Int)] 78) (hE : Early w a) :
    Calls Tryz.prog 68 #[.iface 74 (.pointer (some ⟨b, 0, none⟩)), .iface 234 (.pointer (some a)), .bool true] w fun r w' => r = .returned (.bool (decide (e = 4))) ∧ w' = w := by
  have K := faultIs_any b a e p w h hE
  have i1 := hasIsF
  have i2 := noUnwrapF
  have i3 := noUnwrapsF
  have hty := run_eql_iface_types (P := Tryz.prog) 74 234 (.pointer (some ⟨b, 0, none⟩)) (.pointer (some a)) Tryz.underlying45 (by decide) w
  cases q : decide (e = 4)
  all_goals rw [q] at K
  all_goals
    go_enter Tryz.func68, Tryz.ntmps68
    go_wp2
    refine wp_loop_rounds 1 ?_
    rw [rounds_succ]
    go_wp2_with (first | (go_at_call 176; refine K.mono ?_; rintro r w' ⟨rfl, hw'⟩; obtain rfl := hw'.symm))
    go_ret
    exact ⟨rfl, rfl⟩
set_option maxHeartbeats 4000000 in
set_option maxRecDepth 100000 in
theorem is1 (b0 b : Nat) (s0 : ByteArray) (a : Addr) (e p : Nat) (w : World) (h0 : RowAt w b0 [.string s0, .iface 74 (.pointer (some ⟨b, 0, none⟩))] 118) (h : RowAt w b [.int .i64 (e : Int), .int .i64 (p : Int)] 78) (hE : Early w a) :
    Calls Tryz.prog 68 #[.iface 116 (.pointer (some ⟨b0, 0, none⟩)), .iface 234 (.pointer (some a)), .bool true] w fun r w' => r = .returned (.bool (decide (e = 4))) ∧ w' = w := by
  have K := faultIs_any b a e p w h hE
  have K0 := unwrap_any b0 s0 _ w h0
  have i1 := hasIsF
  have i2 := noUnwrapF
  have i3 := noUnwrapsF
  have i4 := noIsW
  have i5 := hasUnwrapW
  have hty := run_eql_iface_types (P := Tryz.prog) 74 234 (.pointer (some ⟨b, 0, none⟩)) (.pointer (some a)) Tryz.underlying45 (by decide) w
  have hty0 := run_eql_iface_types (P := Tryz.prog) 116 234 (.pointer (some ⟨b0, 0, none⟩)) (.pointer (some a)) Tryz.underlying45 (by decide) w
  cases q : decide (e = 4)
  all_goals rw [q] at K
  all_goals
    go_enter Tryz.func68, Tryz.ntmps68
    go_wp2
    refine wp_loop_rounds 2 ?_
    rw [rounds_succ]
    go_wp2_with (first | (go_at_call 176; refine K.mono ?_; rintro r w' ⟨rfl, hw'⟩; obtain rfl := hw'.symm) | (go_at_call 178; with_reducible refine K0.mono ?_; rintro r w' ⟨rfl, hw'⟩; obtain rfl := hw'.symm))
    rw [rounds_succ]
    go_wp2_with (first | (go_at_call 176; refine K.mono ?_; rintro r w' ⟨rfl, hw'⟩; obtain rfl := hw'.symm) | (go_at_call 178; with_reducible refine K0.mono ?_; rintro r w' ⟨rfl, hw'⟩; obtain rfl := hw'.symm))
    go_ret
    exact ⟨rfl, rfl⟩
set_option maxHeartbeats 4000000 in
set_option maxRecDepth 100000 in
theorem is2 (b0 b1 b : Nat) (s0 s1 : ByteArray) (a : Addr) (e p : Nat) (w : World) (h0 : RowAt w b0 [.string s0, .iface 116 (.pointer (some ⟨b1, 0, none⟩))] 118) (h1 : RowAt w b1 [.string s1, .iface 74 (.pointer (some ⟨b, 0, none⟩))] 118) (h : RowAt w b [.int .i64 (e : Int), .int .i64 (p : Int)] 78) (hE : Early w a) :
    Calls Tryz.prog 68 #[.iface 116 (.pointer (some ⟨b0, 0, none⟩)), .iface 234 (.pointer (some a)), .bool true] w fun r w' => r = .returned (.bool (decide (e = 4))) ∧ w' = w := by
  have K := faultIs_any b a e p w h hE
  have K0 := unwrap_any b0 s0 _ w h0
  have K1 := unwrap_any b1 s1 _ w h1
  have i1 := hasIsF
  have i2 := noUnwrapF
  have i3 := noUnwrapsF
  have i4 := noIsW
  have i5 := hasUnwrapW
  have hty := run_eql_iface_types (P := Tryz.prog) 74 234 (.pointer (some ⟨b, 0, none⟩)) (.pointer (some a)) Tryz.underlying45 (by decide) w
  have hty0 := run_eql_iface_types (P := Tryz.prog) 116 234 (.pointer (some ⟨b0, 0, none⟩)) (.pointer (some a)) Tryz.underlying45 (by decide) w
  have hty1 := run_eql_iface_types (P := Tryz.prog) 116 234 (.pointer (some ⟨b1, 0, none⟩)) (.pointer (some a)) Tryz.underlying45 (by decide) w
  cases q : decide (e = 4)
  all_goals rw [q] at K
  all_goals
    go_enter Tryz.func68, Tryz.ntmps68
    go_wp2
    refine wp_loop_rounds 3 ?_
    rw [rounds_succ]
    go_wp2_with (first | (go_at_call 176; refine K.mono ?_; rintro r w' ⟨rfl, hw'⟩; obtain rfl := hw'.symm) | (go_at_call 178; with_reducible refine K0.mono ?_; rintro r w' ⟨rfl, hw'⟩; obtain rfl := hw'.symm) | (go_at_call 178; with_reducible refine K1.mono ?_; rintro r w' ⟨rfl, hw'⟩; obtain rfl := hw'.symm))
    rw [rounds_succ]
    go_wp2_with (first | (go_at_call 176; refine K.mono ?_; rintro r w' ⟨rfl, hw'⟩; obtain rfl := hw'.symm) | (go_at_call 178; with_reducible refine K0.mono ?_; rintro r w' ⟨rfl, hw'⟩; obtain rfl := hw'.symm) | (go_at_call 178; with_reducible refine K1.mono ?_; rintro r w' ⟨rfl, hw'⟩; obtain rfl := hw'.symm))
    rw [rounds_succ]
    go_wp2_with (first | (go_at_call 176; refine K.mono ?_; rintro r w' ⟨rfl, hw'⟩; obtain rfl := hw'.symm) | (go_at_call 178; with_reducible refine K0.mono ?_; rintro r w' ⟨rfl, hw'⟩; obtain rfl := hw'.symm) | (go_at_call 178; with_reducible refine K1.mono ?_; rintro r w' ⟨rfl, hw'⟩; obtain rfl := hw'.symm))
    go_ret
    exact ⟨rfl, rfl⟩
/-- What errors.is finds in a wrapped fault. -/
theorem is_chain (d : Nat) (hd : d ≤ 2) (v : Value) (a : Addr) (e p : Nat) (w : World) (h : Chain w d v e p) (hE : Early w a) :
    Calls Tryz.prog 68 #[v, .iface 234 (.pointer (some a)), .bool true] w fun r w' => r = .returned (.bool (decide (e = 4))) ∧ w' = w := by
  match d, hd, h with
  | 0, _, ⟨b, e1, h1⟩ => subst e1; exact is0 b a e p w h1 hE
  | 1, _, ⟨b0, s0, c, e1, h1, b, e2, h2⟩ => subst e1 e2; exact is1 b0 b s0 a e p w h1 h2 hE
  | 2, _, ⟨b0, s0, c, e1, h1, b1, s1, c1, e2, h2, b, e3, h3⟩ => subst e1 e2 e3; exact is2 b0 b1 b s0 s1 a e p w h1 h2 h3 hE
theorem Chain.iface {w : World} {d : Nat} {v : Value} {e p : Nat} (h : Chain w d v e p) : ∃ t x, v = .iface t x := by
  match d, h with
  | 0, ⟨b, e1, _⟩ => exact ⟨_, _, e1⟩
  | d + 1, ⟨b, s, c, e1, _, _⟩ => exact ⟨_, _, e1⟩

set_option maxHeartbeats 2000000 in
set_option maxRecDepth 100000 in
theorem Is_nil (a : Addr) (w : World) :
    Calls Tryz.prog 43 #[.nilIface, .iface 234 (.pointer (some a))] w fun r w' => r = .returned (.bool false) ∧ w' = w := by
  have hn := run_eql_iface_nil_left (P := Tryz.prog) w 234 (.pointer (some a)) Tryz.underlying45
  go_enter Tryz.func43, Tryz.ntmps43
  go_wp2
  go_ret
  exact ⟨rfl, rfl⟩
set_option maxHeartbeats 2000000 in
set_option maxRecDepth 100000 in
theorem Is_chain (d : Nat) (hd : d ≤ 2) (v : Value) (a : Addr) (e p : Nat) (w : World) (h : Chain w d v e p) (hE : Early w a) :
    Calls Tryz.prog 43 #[v, .iface 234 (.pointer (some a))] w fun r w' => r = .returned (.bool (decide (e = 4))) ∧ w' = w := by
  have K := is_chain d hd v a e p w h hE
  obtain ⟨t, x, rfl⟩ := h.iface
  have tT := callTypeOf
  have cT := callComparable
  clear h hE
  cases q : decide (e = 4)
  all_goals rw [q] at K
  all_goals
    go_enter Tryz.func43, Tryz.ntmps43
    go_wp2_with (first | (go_at_call 68; refine K.mono ?_; rintro r w' ⟨rfl, hw'⟩; obtain rfl := hw'.symm))
    go_ret
    exact ⟨rfl, rfl⟩
end Go.Proofs.YtlghjjennhpjeaaGreatDoor

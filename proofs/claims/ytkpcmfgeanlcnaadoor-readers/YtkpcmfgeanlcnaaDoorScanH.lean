/-
  How the document reads a shard: the names and sizes, one behind the other.
-/
import Derived.Test.YtkpcmfgeanlcnaaDoorScanG
import Derived.Maps.AppendAt
namespace Go.Proofs.YtkpcmfgeanlcnaaDoor
open Go.RowKit Go.Deep

theorem infoS : (Tryd.prog.info? 9).map (fun i => (i.zero, i.size, i.bytes)) = some (some (.string ⟨#[]⟩), 1, 16) := by kernel_rfl
theorem infoI : (Tryd.prog.info? 3).map (fun i => (i.zero, i.size, i.bytes)) = some (some (.int .i64 0), 1, 8) := by kernel_rfl
def strV (l : List (List UInt8)) : List Value := l.map fun s => Value.string ⟨s.toArray⟩
theorem strV_at {l : List (List UInt8)} {j : Nat} (h : j < l.length) : (strV l)[j]? = some (.string ⟨(l.getD j []).toArray⟩) := by
  simp [strV, List.getElem?_map, List.getD_eq_getElem?_getD, List.getElem?_eq_getElem h]

/-- Is a name not behind another? -/
def notBehind (a b : List UInt8) : Bool := Op.bytesLess a b || a == b

/-- What is wrong with the blobs that are still to come (c of them, from a place on), or all names and sizes and the place behind them. -/
def blobsE (l : List UInt8) (en : Nat) : Nat → Nat → List (List UInt8) → List Nat → Except (Nat × Nat) (List (List UInt8) × List Nat × Nat)
  | 0, a, ns, zs => .ok (ns, zs, a)
  | c + 1, a, ns, zs =>
    if en < a + 2 then .error (7, a)
    else if le l a 2 < 1 ∨ 255 < le l a 2 ∨ en < a + 6 + le l a 2 then .error (7, a)
    else if 0 < ns.length ∧ notBehind (part l (a + 2) (le l a 2)) (ns.getD (ns.length - 1) []) = true then .error (7, a + 2)
    else if 65536 < totalS (zs ++ [le l (a + 2 + le l a 2) 4]) then .error (7, a + 2 + le l a 2)
    else blobsE l en c (a + 6 + le l a 2) (ns ++ [part l (a + 2) (le l a 2)]) (zs ++ [le l (a + 2 + le l a 2) 4])

/-- The shard as far as it is read. -/
structure ShX (w : World) (xb : Nat) (k n i c : Nat) (vN vS vC : Value) : Prop where
  row : RowAt w xb (shardL k n i c vN vS vC) 36
theorem ShX.setN {w : World} {xb k n i c : Nat} {vN vS vC : Value} (h : ShX w xb k n i c vN vS vC) (u : Value) : ShX (w.setCell ⟨xb, 4, none⟩ u) xb k n i c u vS vC := ⟨h.row.set 4 u⟩
theorem ShX.setS {w : World} {xb k n i c : Nat} {vN vS vC : Value} (h : ShX w xb k n i c vN vS vC) (u : Value) : ShX (w.setCell ⟨xb, 5, none⟩ u) xb k n i c vN u vC := ⟨h.row.set 5 u⟩
theorem ShX.setC {w : World} {xb k n i c : Nat} {vN vS vC : Value} (h : ShX w xb k n i c vN vS vC) (u : Value) : ShX (w.setCell ⟨xb, 6, none⟩ u) xb k n i c vN vS u := ⟨h.row.set 6 u⟩
theorem ShX.later {w w' : World} {xb k n i c B : Nat} {vN vS vC : Value} {S : Nat → Prop} (h : ShX w xb k n i c vN vS vC) (hb : But B S w w') (h1 : xb < B) (h2 : ¬ S xb) : ShX w' xb k n i c vN vS vC := ⟨h.row.later hb h1 h2⟩

/-- A row that is owned stays, where its block stays. -/
theorem owns_later {w w' : World} {base e size n : Nat} {v : Value} {xs : List Value} (h : w.ownsRow base e size v n xs) (hh : ∀ g, v.ownBlock = some g → w'.heap[g]? = w.heap[g]?) : w'.ownsRow base e size v n xs := by
  refine ⟨h.1, ?_⟩
  rcases h.2 with x | ⟨g, cap, cur, rfl, h1, h2, h3⟩
  · exact .inl x
  · exact .inr ⟨g, cap, cur, rfl, h1, (hh g rfl).trans h2, h3⟩
/-- Two rows lie apart. -/
def Apart2 (a b : Value) : Prop := ∀ g, a.ownBlock = some g → b.ownBlock ≠ some g

theorem conv_part {w : World} {bb bo : Nat} {l : List UInt8} (h : Byt w bb bo l) (k : Nat) (hk : l.length = k) (cap : Nat) : (convert 24 9 (.slice (some ⟨bb, bo, none⟩) k cap)).run Tryd.prog w = .ok (.string ⟨l.toArray⟩) w := by
  subst hk
  refine run_convert_bytes_back w 24 9 5 ⟨bb, bo, none⟩ cap l Tryd.underlying24 Tryd.underlying5 Tryd.underlying9 (fun j hj => ?_)
  rw [add_off, h j hj]
  simp [bAt, List.getD_eq_getElem?_getD, List.getElem?_eq_getElem hj]

/-- The state of the loop over the blobs. -/
structure NmInv (w : World) (sb xb bb bo cap : Nat) (l : List UInt8) (k n i ch : Nat) (vN vS : Value) (ns : List (List UInt8)) (zs : List Nat) (B : Nat) (wr : World) : Prop where
  but : But B (fun k => k = sb ∨ k = xb) w wr
  sc : ScR wr sb (.slice (some ⟨bb, bo, none⟩) l.length cap) 32 none
  sh : ShX wr xb k n i ch vN vS (.slice none 0 0)
  on : wr.ownsRow B 9 1 vN ns.length (strV ns)
  os : wr.ownsRow B 3 1 vS zs.length (natV zs)
  ap : Apart2 vN vS

/-- The blobs end where the manifest ends. -/
def endE (en : Nat) (r : Except (Nat × Nat) (List (List UInt8) × List Nat × Nat)) : Except (Nat × Nat) (List (List UInt8) × List Nat) :=
  match r with
  | .error e => .error e
  | .ok (ns, zs, a) => if a = en then .ok (ns, zs) else .error (7, a)
def namesE (l : List UInt8) (m : Nat) : Except (Nat × Nat) (List (List UInt8) × List Nat) :=
  match sealE l 32 m with
  | some e => .error e
  | none =>
    if 1000 < le l 32 4 then .error (7, 32)
    else endE (32 + m) (blobsE l (32 + m) (le l 32 4) 36 [] [])

theorem ScR.setAt {w : World} {sb : Nat} {v : Value} {at_ : Nat} {r : Option (Nat × Nat)} (h : ScR w sb v at_ r) (x : Nat) : ScR (w.setCell ⟨sb, 1, none⟩ (.int .i64 (x : Int))) sb v x r := ⟨h.scn.setAt x, h.errs⟩
theorem sealE_len {l : List UInt8} {a n : Nat} (h : sealE l a n = none) : a + n + 8 ≤ l.length := by
  unfold sealE at h
  split at h
  · cases h
  · omega

section
variable (sb xb bb bo cap : Nat) (hbs : bb ≠ sb) (hbx : bb ≠ xb) (hxs : xb ≠ sb) (l : List UInt8) (hl : l.length < 2 ^ 60) (hcap : l.length ≤ cap) (m : Nat) (hm4 : 4 ≤ m) (hm : m ≤ 300000) (k n i ch at0 : Nat)
    (w : World) (h : ScR w sb (.slice (some ⟨bb, bo, none⟩) l.length cap) at0 none) (hx : ShX w xb k n i ch (.slice none 0 0) (.slice none 0 0) (.slice none 0 0)) (hb : Byt w bb bo l) (hbb : bb < w.heap.size)

/-- What is held behind the names. -/
def NamesPost (w : World) (sb xb bb bo cap : Nat) (l : List UInt8) (m k n i ch : Nat) (w' : World) : Prop :=
  But w.heap.size (fun k => k = sb ∨ k = xb) w w' ∧
  match namesE l m with
  | .error e => ScR w' sb (.slice (some ⟨bb, bo, none⟩) l.length cap) 32 (some e)
  | .ok (ns, zs) => ∃ vN vS, NmInv w sb xb bb bo cap l k n i ch vN vS ns zs w.heap.size w'

set_option maxHeartbeats 4000000 in
set_option maxRecDepth 100000 in
include hbs hl hcap hm4 hm h hb hbb in
theorem names_bad (e : Nat × Nat) (he : orE (sealE l 32 m) (if sealE l 32 m = none then mustE (decide (le l 32 4 ≤ 1000)) 7 32 else none) = some e) :
    Calls Tryd.prog 41 #[.pointer (some ⟨sb, 0, none⟩), .pointer (some ⟨xb, 0, none⟩), .int .i64 (m : Int)] w fun q w' => q = .returned (.tuple #[]) ∧ But w.heap.size (fun k => k = sb ∨ k = xb) w w' ∧ ScR w' sb (.slice (some ⟨bb, bo, none⟩) l.length cap) 32 (some e) := by
  have hsb := h.lt
  have c1 := h.scn.c1
  have f1 := RowAt.frozen h.scn 1
  have h0 := h.setAt 32
  have hB0 := (But.refl w.heap.size (· = sb) w).setCell (p := ⟨sb, 1, none⟩) (.inr rfl) (.int .i64 32)
  have hb0 := hb.later hB0 hbb hbs
  obtain ⟨V, hV, hnum, hst⟩ : ∃ V : Nat, V < 2 ^ 32 ∧ (∀ w', ScR w' sb (.slice (some ⟨bb, bo, none⟩) l.length cap) 32 (orE none (sealE l 32 m)) → Byt w' bb bo l →
      Calls Tryd.prog 40 #[.pointer (some ⟨sb, 0, none⟩), .int .i64 32, .int .i64 4] w' fun q w'' => q = .returned (.int .i64 (V : Int)) ∧ w'' = w') ∧
      orE (orE none (sealE l 32 m)) (mustE (decide (V ≤ 1000)) 7 32) = some e := by
    cases hs : sealE l 32 m with
    | none =>
      refine ⟨le l 32 4, le_lt l 4 32, fun w' hS hB => num_ok _ _ 32 4 rfl rfl (by omega) hl hS hB (by have := sealE_len hs; omega), ?_⟩
      rw [hs] at he
      exact he
    | some x =>
      refine ⟨0, by omega, fun w' hS hB => num_err _ _ 32 4 rfl rfl (by omega) hl x hS hB, ?_⟩
      rw [hs] at he
      exact he
  clear he
  have HST : Hid _ := hst
  clear hst
  go_enter Tryd.func41, Tryd.ntmps41
  go_wp2_with (first | (go_at_call 72; refine (seal_r (sb := sb) (bb := bb) (bo := bo) (cap := cap) (l := l) (at_ := 32) (r := none) _ m (by rfl) (by omega) hbs hl hcap (by omega) (by exact h0) (by exact hb0) (by simp; omega)).mono ?_; rintro q w1 ⟨rfl, hS1, hB1⟩; have hb1 := hb0.later hB1 (by simp; omega) hbs) | (go_at_call 40; refine (hnum _ (by exact hS1) (by exact hb1)).mono ?_; rintro q w' ⟨rfl, hw'⟩; obtain rfl := hw'.symm) | (go_at_call 42; refine (must_r (sb := sb) (at_ := 32) (r := orE none (sealE l 32 m)) (decide ((V : Int) ≤ 1000)) _ _ 7 32 (by rfl) (by rfl) (by decide) (by exact hS1)).mono ?_; rintro q w2 ⟨rfl, hS2, hB2⟩))
  have hS3 : ScR w2 sb (.slice (some ⟨bb, bo, none⟩) l.length cap) 32 (some e) := by
    rw [← HST.out]
    exact hS2.ok (by rw [Bool.eq_iff_iff]; simp <;> omega)
  clear hS2 hS1 hnum HST
  have hB3 : But w.heap.size (fun k => k = sb ∨ k = xb) w w2 := by
    have e0 : (w.setCell ⟨sb, 1, none⟩ (.int .i64 32)).heap.size = w.heap.size := by simp
    have := hB0.trans ((hB1.mono (by omega) (fun _ x => x)).trans (hB2.mono (by have := hB1.size; omega) (fun _ x => x)))
    exact this.mono (Nat.le_refl _) (fun _ x => .inl x)
  clear hB0 hB1 hB2 hb1 hb0 h0
  have E0 : Hid (e.1 ≠ 0) := hS3.errs e rfl
  go_loopw [8, 9, 10, 11, 12] (fun va vi _ _ _ wr => wr = w2 ∧ vi = .int .i64 0 ∧ va = .int .i64 36) (fun _ i _ _ _ _ => 1)
  case atStart => exact ⟨rfl, rfl, rfl⟩
  case round =>
    obtain ⟨rfl, rfl, rfl⟩ := hrel
    have c2 : wr.cell? ⟨sb, 2, none⟩ = some (.int .i64 (e.1 : Int)) := hS3.scn.c2
    have hE : ((e.1 : Int) == 0) = false := by have := E0.out; simp; omega
    by_cases hV0 : 0 < V
    · go_wp2_with (first | (go_at_call 42; refine (must_r (sb := sb) (at_ := 32) (r := some e) _ _ _ 7 36 (by rfl) (by rfl) (by decide) (by exact hS3)).mono ?_; rintro q w4 ⟨rfl, hS4, hB4⟩))
      go_end0
      exact ⟨rfl, hB3.trans (hB4.mono hB3.size (fun _ x => .inl x)), hS4⟩
    · have e0 : V = 0 := by omega
      subst e0
      go_wp2_with (first | (go_at_call 42; refine (must_r (sb := sb) (at_ := 32) (r := some e) _ _ _ 7 36 (by rfl) (by rfl) (by decide) (by exact hS3)).mono ?_; rintro q w4 ⟨rfl, hS4, hB4⟩))
      go_end0
      exact ⟨rfl, hB3.trans (hB4.mono hB3.size (fun _ x => .inl x)), hS4⟩
end
end Go.Proofs.YtkpcmfgeanlcnaaDoor

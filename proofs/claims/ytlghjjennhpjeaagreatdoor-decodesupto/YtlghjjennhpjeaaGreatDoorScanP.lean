/-
  How the document reads a shard: where the head is wrong.
  How the document reads a shard: what holds of names, sizes and frames that are right; the calls where an error stands already.
  How the document reads a shard: where the head is right and the names are wrong.
  How the document reads a shard: where the names are right.
  How the document reads a shard: where the frames are wrong.
-/
import Derived.Test.YtlghjjennhpjeaaGreatDoorErA
namespace Go.Proofs.YtlghjjennhpjeaaGreatDoor
open Go.RowKit Go.Deep
theorem RowAt.drew {w : World} {b : Nat} {cs : List Value} {t : TypeId} (h : RowAt w b cs t) : RowAt w.drew b cs t := h
set_option maxHeartbeats 1000000 in
set_option maxRecDepth 100000 in
theorem parse_head (bb bo cap : Nat) (l : List UInt8) (hl : l.length < 2 ^ 58) (hcap : l.length ≤ cap) (w : World) (hb : Byt w bb bo l) (hbb : bb < w.heap.size) (e : Nat × Nat) (he : headE l = some e) :
    Calls Tryz.prog 12 #[.slice (some ⟨bb, bo, none⟩) l.length cap] w (ParsePost l w) := by
  have HE : Hid (parseE l = .error e) := by
    show parseE l = _
    unfold parseE
    rw [he]
  obtain ⟨ca, cb, cc, cd, hhead⟩ : ∃ ca cb cc cd : Nat, ∀ sb w1, bb ≠ sb → ScR w1 sb (.slice (some ⟨bb, bo, none⟩) l.length cap) 0 none → Byt w1 bb bo l → bb < w1.heap.size →
      Calls Tryz.prog 28 #[.pointer (some ⟨sb, 0, none⟩)] w1 fun q w' => q = .returned (.agg (shardL ca cb cc cd (.slice none 0 0) (.slice none 0 0) (.slice none 0 0)).toArray) ∧ ScR w' sb (.slice (some ⟨bb, bo, none⟩) l.length cap) 0 (some e) ∧ But w1.heap.size (· = sb) w1 w' := by
    unfold headE at he
    cases h12 : orE (fixE l 0 magic1) (sealE l 0 24) with
    | some x =>
      rw [h12] at he
      cases he
      exact ⟨0, 0, 0, 0, fun sb w1 hbs h1 h2 h3 => head_err sb bb bo cap hbs l (by omega) hcap w1 h1 h2 h3 e h12⟩
    | none =>
      rw [h12] at he
      have h1 : fixE l 0 magic1 = none := by
        cases hf : fixE l 0 magic1 with
        | none => rfl
        | some x => rw [hf] at h12; cases h12
      have h2 : sealE l 0 24 = none := by rw [h1] at h12; exact h12
      refine ⟨le l 6 1, le l 7 1, le l 8 1, le l 10 4, fun sb w1 hbs h3 h4 h5 => ?_⟩
      have := head_ok sb bb bo cap hbs l (by omega) hcap w1 h3 h4 h5 h1 h2
      simp only at he
      rw [he] at this
      exact this
  clear he
  unfold shardL at hhead
  have hA : RowAt ((w.alloc (.cells (shardL 0 0 0 0 (.slice none 0 0) (.slice none 0 0) (.slice none 0 0)).toArray 41)).alloc (.cells (scanL (.slice (some ⟨bb, bo, none⟩) l.length cap) 0 0 0).toArray 81)) (w.heap.size + 1) (scanL (.slice (some ⟨bb, bo, none⟩) l.length cap) 0 0 0) 81 := by
    have := RowAt.made (w.alloc (.cells (shardL 0 0 0 0 (.slice none 0 0) (.slice none 0 0) (.slice none 0 0)).toArray 41)) (scanL (.slice (some ⟨bb, bo, none⟩) l.length cap) 0 0 0) 81
    simpa using this
  have hbe : But w.heap.size (fun _ => False) w ((w.alloc (.cells (shardL 0 0 0 0 (.slice none 0 0) (.slice none 0 0) (.slice none 0 0)).toArray 41)).alloc (.cells (scanL (.slice (some ⟨bb, bo, none⟩) l.length cap) 0 0 0).toArray 81)) := ((But.refl _ _ _).alloc (Nat.le_refl _) _).alloc (by simp) _
  have hR : RowAt ((w.alloc (.cells (shardL 0 0 0 0 (.slice none 0 0) (.slice none 0 0) (.slice none 0 0)).toArray 41)).alloc (.cells (scanL (.slice (some ⟨bb, bo, none⟩) l.length cap) 0 0 0).toArray 81)) w.heap.size (shardL 0 0 0 0 (.slice none 0 0) (.slice none 0 0) (.slice none 0 0)) 41 :=
    (RowAt.made w _ _).later (S := fun _ => False) (But.alloc (But.refl _ _ _) (Nat.le_refl _) _) (by simp) id
  have hsz : ((w.alloc (.cells (shardL 0 0 0 0 (.slice none 0 0) (.slice none 0 0) (.slice none 0 0)).toArray 41)).alloc (.cells (scanL (.slice (some ⟨bb, bo, none⟩) l.length cap) 0 0 0).toArray 81)).heap.size = w.heap.size + 2 := by simp
  have hS1 : ScR _ (w.heap.size + 1) (.slice (some ⟨bb, bo, none⟩) l.length cap) 0 none := ⟨hA, errs_none⟩
  have hb1 := hb.later hbe hbb id
  unfold shardL scanL at hS1 hb1 hR hbe hsz
  go_enter Tryz.func12, Tryz.ntmps12
  go_upto_region 2 with fail
  generalize (w.alloc (Obj.cells (List.toArray [Value.int .i64 ((0 : Nat) : Int), Value.int .i64 ((0 : Nat) : Int), Value.int .i64 ((0 : Nat) : Int), Value.int .i64 ((0 : Nat) : Int), Value.slice none 0 0, Value.slice none 0 0, Value.slice none 0 0]) 41)).alloc (Obj.cells (List.toArray [Value.slice (some ⟨bb, bo, none⟩) l.length cap, Value.int .i64 ((0 : Nat) : Int), Value.int .i64 ((0 : Nat) : Int), Value.int .i64 ((0 : Nat) : Int)]) 81) = w1 at hS1 hb1 hR hbe hsz ⊢
  go_upto_region 14 with (first | (go_at_call 28; refine (hhead (w.heap.size + 1) w1 (by omega) hS1 hb1 (by omega)).mono ?_; rintro q w2 ⟨rfl, hS2, hB2⟩; obtain ⟨k2, k3, kE⟩ := head_cells hS2))
  have hR2 := hR.later hB2 (by omega) (by omega)
  have hbx : ∀ o, But w2.heap.size (fun _ => False) w2 (w2.alloc o) := fun o => But.alloc (But.refl _ _ _) (Nat.le_refl _) o
  have hsz2 := hB2.size
  have e2 := k2 (.cells (List.toArray [Value.int .i64 (ca : Int), Value.int .i64 (cb : Int), Value.int .i64 (cc : Int), Value.int .i64 (cd : Int), Value.slice none 0 0, Value.slice none 0 0, Value.slice none 0 0]) 41)
  have e3 := k3 (.cells (List.toArray [Value.int .i64 (ca : Int), Value.int .i64 (cb : Int), Value.int .i64 (cc : Int), Value.int .i64 (cd : Int), Value.slice none 0 0, Value.slice none 0 0, Value.slice none 0 0]) 41)
  have hR3 := hR2.later (hbx (.cells (List.toArray [Value.int .i64 (ca : Int), Value.int .i64 (cb : Int), Value.int .i64 (cc : Int), Value.int .i64 (cd : Int), Value.slice none 0 0, Value.slice none 0 0, Value.slice none 0 0]) 41)) (by omega) id
  have hb3 := hbx (.cells (List.toArray [Value.int .i64 (ca : Int), Value.int .i64 (cb : Int), Value.int .i64 (cc : Int), Value.int .i64 (cd : Int), Value.slice none 0 0, Value.slice none 0 0, Value.slice none 0 0]) 41)
  generalize w2.alloc (Obj.cells (List.toArray [Value.int .i64 (ca : Int), Value.int .i64 (cb : Int), Value.int .i64 (cc : Int), Value.int .i64 (cd : Int), Value.slice none 0 0, Value.slice none 0 0, Value.slice none 0 0]) 41) = w3 at e2 e3 hR3 hb3 ⊢
  have hBB : Below w.heap.size w w3 := ((hbe.trans ((hB2.mono (by omega) (fun _ x => x)).below (fun k hk hs => by omega) |> But.of_below)).trans (hb3.mono (by omega) (fun _ x => x))).below (fun _ _ x => x)
  clear k2 k3 hbx hR2 hR hbe hb3 hB2 hS2 hS1 hb1 hhead hsz hsz2
  have d0 := hR3.cell (i := 0) rfl
  have f0 := hR3.frozen 0
  have d1 := hR3.cell (i := 1) rfl
  have f1 := hR3.frozen 1
  have d2 := hR3.cell (i := 2) rfl
  have f2 := hR3.frozen 2
  have d3 := hR3.cell (i := 3) rfl
  have f3 := hR3.frozen 3
  have d4 := hR3.cell (i := 4) rfl
  have f4 := hR3.frozen 4
  have d5 := hR3.cell (i := 5) rfl
  have f5 := hR3.frozen 5
  have d6 := hR3.cell (i := 6) rfl
  have f6 := hR3.frozen 6
  go_region
  go_wp2
  have hF := RowAt.drew (((((((hR3.set 0 (.int .i64 0)).set 1 (.int .i64 0)).set 2 (.int .i64 0)).set 3 (.int .i64 0)).set 4 (.slice none 0 0)).set 5 (.slice none 0 0)).set 6 (.slice none 0 0))
  have hG := (((((((hBB.setCell (p := ⟨w.heap.size, 0, none⟩) (Nat.le_refl _) (.int .i64 0)).setCell (p := ⟨w.heap.size, 1, none⟩) (Nat.le_refl _) (.int .i64 0)).setCell (p := ⟨w.heap.size, 2, none⟩) (Nat.le_refl _) (.int .i64 0)).setCell (p := ⟨w.heap.size, 3, none⟩) (Nat.le_refl _) (.int .i64 0)).setCell (p := ⟨w.heap.size, 4, none⟩) (Nat.le_refl _) (.slice none 0 0)).setCell (p := ⟨w.heap.size, 5, none⟩) (Nat.le_refl _) (.slice none 0 0)).setCell (p := ⟨w.heap.size, 6, none⟩) (Nat.le_refl _) (.slice none 0 0)).drew
  have hF2 : _ = some (Obj.cells _ 41 (0, 0)) := hF
  refine bodyPost_ret (results_cell_2 (p := 2) (u := 3) (t := 4) rfl _ _ w.heap.size 41 _ (0, 0) _ (by rfl) hF2 Tryz.underlying41 rfl (by kernel_rfl)) rfl ?_
  refine ⟨hG, ?_⟩
  rw [HE.out]
  rfl
end Go.Proofs.YtlghjjennhpjeaaGreatDoor

namespace Go.Proofs.YtlghjjennhpjeaaGreatDoor
open Go.RowKit Go.Deep

theorem blobsE_ok (l : List UInt8) (en : Nat) : ∀ (c a : Nat) (ns : List (List UInt8)) (zs : List Nat) {ns' : List (List UInt8)} {zs' : List Nat} {a' : Nat}, zs.sum ≤ 65536 → blobsE l en c a ns zs = .ok (ns', zs', a') → zs'.sum ≤ 65536 ∧ zs'.length = zs.length + c ∧ ns'.length = ns.length + c
  | 0, a, ns, zs, ns', zs', a', hz, h => by
    unfold blobsE at h
    cases h
    exact ⟨hz, rfl, rfl⟩
  | c + 1, a, ns, zs, ns', zs', a', hz, h => by
    unfold blobsE at h
    split at h
    · cases h
    · split at h
      · cases h
      · split at h
        · cases h
        · split at h
          · cases h
          · rename_i _ _ _ h4
            have hs : (zs ++ [le l (a + 2 + le l a 2) 4]).sum ≤ 65536 := by
              unfold totalS at h4
              split at h4
              · assumption
              · omega
            have := blobsE_ok l en c _ _ _ hs h
            simp only [List.length_append, List.length_cons, List.length_nil] at this
            omega
theorem getD_le_sum : ∀ (zs : List Nat) (j : Nat), zs.getD j 0 ≤ zs.sum
  | [], j => by simp
  | z :: zs, 0 => by simp
  | z :: zs, j + 1 => by
    have := getD_le_sum zs j
    simp only [List.getD_cons_succ, List.sum_cons]
    omega
theorem namesE_ok {l : List UInt8} {m : Nat} {ns : List (List UInt8)} {zs : List Nat} (h : namesE l m = .ok (ns, zs)) : sealE l 32 m = none ∧ (∀ j, zs.getD j 0 ≤ 65536) ∧ zs.length ≤ 1000 ∧ zs.sum ≤ 65536 ∧ ns.length = zs.length := by
  unfold namesE at h
  cases hs : sealE l 32 m with
  | some e => rw [hs] at h; cases h
  | none =>
    rw [hs] at h
    simp only at h
    split at h
    · cases h
    · rename_i hN
      cases hb : blobsE l (32 + m) (le l 32 4) 36 [] [] with
      | error e => rw [hb] at h; cases h
      | ok x =>
        obtain ⟨ns', zs', a'⟩ := x
        rw [hb] at h
        simp only [endE] at h
        split at h
        · cases h
          obtain ⟨h1, h2, h3⟩ := blobsE_ok l (32 + m) _ _ _ _ (by simp) hb
          simp only [List.length_nil, Nat.zero_add] at h2 h3
          exact ⟨rfl, fun j => Nat.le_trans (getD_le_sum zs j) h1, by omega, h1, by omega⟩
        · cases h
theorem sealE_room {l : List UInt8} {a n : Nat} (h : sealE l a n = none) : a + n + 8 ≤ l.length := by
  unfold sealE at h
  split at h
  · cases h
  · omega
theorem framesE_le (l : List UInt8) (low : Bool) (ch ln : Nat) (en : Int) : ∀ (f a : Nat) (col : List UInt8) {col' : List UInt8} {a' : Nat}, a ≤ l.length → framesE l low ch ln en f a col = .ok (col', a') → a' ≤ l.length
  | 0, a, col, col', a', ha, h => by
    unfold framesE at h
    cases h
    exact ha
  | f + 1, a, col, col', a', ha, h => by
    unfold framesE at h
    split at h
    · cases h; exact ha
    · split at h
      · cases h
      · rename_i hs
        split at h
        · cases h
        · exact framesE_le l low ch ln en f _ _ (sealE_room hs) h

set_option maxHeartbeats 400000 in
set_option maxRecDepth 100000 in
theorem fixed_late (sb : Nat) (s : ByteArray) (e : Nat) (he : e ≠ 0) (w : World) (h : w.cell? ⟨sb, 2, none⟩ = some (.int .i64 (e : Int))) (hs : 0 < s.size) :
    Calls Tryz.prog 34 #[.pointer (some ⟨sb, 0, none⟩), .string s] w fun q w' => q = .returned (.tuple #[]) ∧ w' = w := by
  have he' : ((e : Int) == 0) = false := by simp; omega
  clear he
  go_enter Tryz.func34, Tryz.ntmps34
  go_wp2
  go_loop [4] (fun vi => vi = .int .i64 0) (fun _ => 0)
  case atStart => rfl
  case round =>
    subst hrel
    go_wp2
    go_end0
    exact ⟨rfl, rfl⟩
theorem must_stop (sb : Nat) (ok : Bool) (X Y : Int) (e : Nat) (he : e ≠ 0) (w : World) (h : w.cell? ⟨sb, 2, none⟩ = some (.int .i64 (e : Int))) :
    Calls Tryz.prog 31 #[.pointer (some ⟨sb, 0, none⟩), .bool ok, .int .i64 X, .int .i64 Y] w fun q w' => q = .returned (.tuple #[]) ∧ w' = w := by
  cases ok
  · exact must_late sb X Y e he w h
  · exact must_true sb X Y w

/-- What the frames come to where an error may stand already. -/
def FrRel (l : List UInt8) (k i ch ln at0 : Nat) (zs : List Nat) (r1 r2 : Option (Nat × Nat)) (a : Nat) (col : List UInt8) : Prop :=
  match r1 with
  | some e => r2 = some e
  | none => match framesE l (decide (i < k)) ch ln ((totalS zs : Int) - ((i * lengthS k zs : Nat) : Int)) ln at0 [] with
    | .error e => r2 = some e
    | .ok (c', a') => r2 = none ∧ col = c' ∧ a = a'
section
variable (sb xb bb bo cap : Nat) (hbs : bb ≠ sb) (hbx : bb ≠ xb) (hxs : xb ≠ sb) (l : List UInt8) (hcap : l.length ≤ cap) (k n i ch at0 : Nat) (hk1 : 1 ≤ k) (hk2 : k ≤ 128) (hi : i < 128) (vN vS : Value) (zs : List Nat) (hz : ∀ j, zs.getD j 0 < 2 ^ 63) (hzl : zs.length < 2 ^ 60)
    (ln : Nat) (hln : ln ≤ 65537) (w : World) (hx : ShX w xb k n i ch vN vS (.slice none 0 0)) (hS : Hold w vS (natV zs)) (hb : Byt w bb bo l) (hbb : bb < w.heap.size)
include hbs hbx hxs hcap hk1 hk2 hi hz hzl hln hx hS hb hbb in
theorem frames_gen (r1 : Option (Nat × Nat)) (h : ScR w sb (.slice (some ⟨bb, bo, none⟩) l.length cap) at0 r1) (hat : at0 < 2 ^ 58) (hl2 : l.length < 2 ^ 58) (hch1 : 1 ≤ ch) (hch2 : ch ≤ 65536) :
    Calls Tryz.prog 33 #[.pointer (some ⟨sb, 0, none⟩), .pointer (some ⟨xb, 0, none⟩), .int .i64 (ln : Int)] w fun q w' => q = .returned (.tuple #[]) ∧
      ∃ vC a col r2, FrInv w sb xb bb bo cap l k n i ch vN vS vC a col w.heap.size r2 w' ∧ FrRel l k i ch ln at0 zs r1 r2 a col := by
  cases r1 with
  | some e =>
    refine (frames_err sb xb bb bo cap l k n i ch at0 hk1 hk2 vN vS zs hz hzl ln w hx hS e h).mono ?_
    rintro q w' ⟨h1, h2, h3⟩
    refine ⟨h1, .slice none 0 0, at0, [], some e, ⟨h3, h.heap h2, ⟨?_⟩, World.ownsRow_nil _ _ _ _⟩, rfl⟩
    have := hx.row
    unfold RowAt at *
    rw [h2]; exact this
  | none =>
    refine (frames_ok sb xb bb bo cap hbs hbx hxs l (by omega) hcap k n i ch at0 hk1 hk2 hi vN vS zs hz hzl ln hln w hx hS hb hbb h hat hl2 hch1 hch2).mono ?_
    rintro q w' ⟨h1, h2⟩
    refine ⟨h1, ?_⟩
    unfold FramesPost at h2
    unfold FrRel
    cases hf : framesE l (decide (i < k)) ch ln ((totalS zs : Int) - ((i * lengthS k zs : Nat) : Int)) ln at0 [] with
    | error e =>
      rw [hf] at h2
      obtain ⟨vC, a, col, h3⟩ := h2
      exact ⟨vC, a, col, some e, h3, by simp only⟩
    | ok x =>
      obtain ⟨c', a'⟩ := x
      rw [hf] at h2
      obtain ⟨vC, h3⟩ := h2
      exact ⟨vC, a', c', none, h3, by simp only; exact ⟨trivial, trivial, trivial⟩⟩
end
end Go.Proofs.YtlghjjennhpjeaaGreatDoor

namespace Go.Proofs.YtlghjjennhpjeaaGreatDoor
open Go.RowKit Go.Deep

section
variable (bb bo cap : Nat) (l : List UInt8) (hl : l.length < 2 ^ 58) (hcap : l.length ≤ cap) (w : World) (hb : Byt w bb bo l) (hbb : bb < w.heap.size) (he : headE l = none)
theorem head_right (he : headE l = none) : fixE l 0 magic1 = none ∧ sealE l 0 24 = none ∧ headR none (le l 6 1) (le l 7 1) (le l 8 1) (le l 9 1) (le l 10 4) (le l 14 4) (le l 18 4) (le l 22 2) = none := by
  unfold headE at he
  cases h12 : orE (fixE l 0 magic1) (sealE l 0 24) with
  | some x => rw [h12] at he; cases he
  | none =>
    rw [h12] at he
    have h1 : fixE l 0 magic1 = none := by
      cases hf : fixE l 0 magic1 with
      | none => rfl
      | some x => rw [hf] at h12; cases h12
    have h2 : sealE l 0 24 = none := by rw [h1] at h12; exact h12
    exact ⟨h1, h2, he⟩

set_option maxHeartbeats 4000000 in
set_option maxRecDepth 100000 in
include hl hcap hb hbb he in
theorem parse_names (e : Nat × Nat) (hn : namesE l (le l 14 4) = .error e) :
    Calls Tryz.prog 12 #[(.slice (some ⟨bb, bo, none⟩) l.length cap)] w (ParsePost l w) := by
  have HE : Hid (parseE l = .error e) := by
    show parseE l = _
    unfold parseE
    rw [he, hn]
  obtain ⟨g1, g2, g3⟩ := head_right l he
  have h32 : 32 ≤ l.length := by have := sealE_room g2; omega
  have hr := headR_none g3
  have hhead : ∀ sb w1, bb ≠ sb → ScR w1 sb (.slice (some ⟨bb, bo, none⟩) l.length cap) 0 none → Byt w1 bb bo l → bb < w1.heap.size →
      Calls Tryz.prog 28 #[.pointer (some ⟨sb, 0, none⟩)] w1 fun q w' => q = .returned (.agg (shardL (le l 6 1) (le l 7 1) (le l 8 1) (le l 10 4) (.slice none 0 0) (.slice none 0 0) (.slice none 0 0)).toArray) ∧ ScR w' sb (.slice (some ⟨bb, bo, none⟩) l.length cap) 0 none ∧ But w1.heap.size (· = sb) w1 w' := fun sb w1 hbs h3 h4 h5 => by
    have := head_ok sb bb bo cap hbs l (by omega) hcap w1 h3 h4 h5 g1 g2
    rw [g3] at this
    exact this
  obtain ⟨k, ek⟩ : ∃ k, le l 6 1 = k := ⟨_, rfl⟩
  obtain ⟨n, en⟩ : ∃ n, le l 7 1 = n := ⟨_, rfl⟩
  obtain ⟨i, ei⟩ : ∃ i, le l 8 1 = i := ⟨_, rfl⟩
  obtain ⟨ch, ech⟩ : ∃ ch, le l 10 4 = ch := ⟨_, rfl⟩
  obtain ⟨m, em⟩ : ∃ m, le l 14 4 = m := ⟨_, rfl⟩
  obtain ⟨ln, eln⟩ : ∃ ln, le l 18 4 = ln := ⟨_, rfl⟩
  have EM : Hid (le l 14 4 = m) := em
  have EL : Hid (le l 18 4 = ln) := eln
  simp only [ek, en, ei, ech] at hhead
  rw [em] at hn hr
  clear ek en ei ech em eln g1 g2 g3 he
  unfold shardL at hhead
  have hA : RowAt ((w.alloc (.cells (shardL 0 0 0 0 (.slice none 0 0) (.slice none 0 0) (.slice none 0 0)).toArray 41)).alloc (.cells (scanL (.slice (some ⟨bb, bo, none⟩) l.length cap) 0 0 0).toArray 81)) (w.heap.size + 1) (scanL (.slice (some ⟨bb, bo, none⟩) l.length cap) 0 0 0) 81 := by
    have := RowAt.made (w.alloc (.cells (shardL 0 0 0 0 (.slice none 0 0) (.slice none 0 0) (.slice none 0 0)).toArray 41)) (scanL (.slice (some ⟨bb, bo, none⟩) l.length cap) 0 0 0) 81
    simpa using this
  have hbe : But w.heap.size (fun _ => False) w ((w.alloc (.cells (shardL 0 0 0 0 (.slice none 0 0) (.slice none 0 0) (.slice none 0 0)).toArray 41)).alloc (.cells (scanL (.slice (some ⟨bb, bo, none⟩) l.length cap) 0 0 0).toArray 81)) := ((But.refl _ _ _).alloc (Nat.le_refl _) _).alloc (by simp) _
  have hR : RowAt ((w.alloc (.cells (shardL 0 0 0 0 (.slice none 0 0) (.slice none 0 0) (.slice none 0 0)).toArray 41)).alloc (.cells (scanL (.slice (some ⟨bb, bo, none⟩) l.length cap) 0 0 0).toArray 81)) w.heap.size (shardL 0 0 0 0 (.slice none 0 0) (.slice none 0 0) (.slice none 0 0)) 41 :=
    (RowAt.made w _ _).later (S := fun _ => False) (But.alloc (But.refl _ _ _) (Nat.le_refl _) _) (by simp) id
  have hsz : ((w.alloc (.cells (shardL 0 0 0 0 (.slice none 0 0) (.slice none 0 0) (.slice none 0 0)).toArray 41)).alloc (.cells (scanL (.slice (some ⟨bb, bo, none⟩) l.length cap) 0 0 0).toArray 81)).heap.size = w.heap.size + 2 := by simp
  have hS1 : ScR _ (w.heap.size + 1) (.slice (some ⟨bb, bo, none⟩) l.length cap) 0 none := ⟨hA, errs_none⟩
  have hb1 := hb.later hbe hbb id
  unfold shardL scanL at hS1 hb1 hR hbe hsz
  go_enter Tryz.func12, Tryz.ntmps12
  go_upto_region 2 with fail
  generalize (w.alloc (Obj.cells (List.toArray [Value.int .i64 ((0 : Nat) : Int), Value.int .i64 ((0 : Nat) : Int), Value.int .i64 ((0 : Nat) : Int), Value.int .i64 ((0 : Nat) : Int), Value.slice none 0 0, Value.slice none 0 0, Value.slice none 0 0]) 41)).alloc (Obj.cells (List.toArray [Value.slice (some ⟨bb, bo, none⟩) l.length cap, Value.int .i64 ((0 : Nat) : Int), Value.int .i64 ((0 : Nat) : Int), Value.int .i64 ((0 : Nat) : Int)]) 81) = w1 at hS1 hb1 hR hbe hsz ⊢
  go_upto_region 3 with (first | (go_at_call 28; refine (hhead (w.heap.size + 1) w1 (by omega) hS1 hb1 (by omega)).mono ?_; rintro q w2 ⟨rfl, hS2, hB2⟩))
  have hR2 := hR.later hB2 (by omega) (by omega)
  have hb2 := hb1.later hB2 (by omega) (by omega)
  have hsz2 := hB2.size
  have hX3 : ShX (w2.alloc (.cells (List.toArray [Value.int .i64 (k : Int), Value.int .i64 (n : Int), Value.int .i64 (i : Int), Value.int .i64 (ch : Int), Value.slice none 0 0, Value.slice none 0 0, Value.slice none 0 0]) 41)) w2.heap.size k n i ch (.slice none 0 0) (.slice none 0 0) (.slice none 0 0) := ⟨RowAt.made w2 _ _⟩
  have hbx : But w2.heap.size (fun _ => False) w2 (w2.alloc (.cells (List.toArray [Value.int .i64 (k : Int), Value.int .i64 (n : Int), Value.int .i64 (i : Int), Value.int .i64 (ch : Int), Value.slice none 0 0, Value.slice none 0 0, Value.slice none 0 0]) 41)) := But.alloc (But.refl _ _ _) (Nat.le_refl _) _
  have hS3 := hS2.later hbx hS2.lt id
  have hR3 := hR2.later hbx (by omega) id
  have hb3 := hb2.later hbx (by omega) id
  have hsz3 : (w2.alloc (.cells (List.toArray [Value.int .i64 (k : Int), Value.int .i64 (n : Int), Value.int .i64 (i : Int), Value.int .i64 (ch : Int), Value.slice none 0 0, Value.slice none 0 0, Value.slice none 0 0]) 41)).heap.size = w2.heap.size + 1 := by simp
  generalize w2.alloc (Obj.cells (List.toArray [Value.int .i64 (k : Int), Value.int .i64 (n : Int), Value.int .i64 (i : Int), Value.int .i64 (ch : Int), Value.slice none 0 0, Value.slice none 0 0, Value.slice none 0 0]) 41) = w3 at hX3 hbx hS3 hR3 hb3 hsz3 ⊢
  have hBB : Below w.heap.size w w3 := ((hbe.trans ((hB2.mono (by omega) (fun _ x => x)).below (fun k hk hs => by omega) |> But.of_below)).trans (hbx.mono (by omega) (fun _ x => x))).below (fun _ _ x => x)
  obtain ⟨xb, exb⟩ : ∃ xb, w2.heap.size = xb := ⟨_, rfl⟩
  rw [exb] at hX3 hsz3 ⊢
  have hxlt : w.heap.size + 2 ≤ xb := by omega
  clear hS2 hB2 hR2 hb2 hbx hsz2 hS1 hb1 hR hbe hsz hhead hA exb
  have KN := names_any (w.heap.size + 1) xb bb bo cap (by omega) (by omega) (by omega) l (by omega) hcap m (by omega) (by omega) k n i ch 0 w3 hS3 hX3 hb3 (by omega)
  unfold NamesPost at KN
  rw [hn] at KN
  simp only at KN
  have e2 := hS3.scn.c2
  simp only [eR] at e2
  go_upto_region 14 with (first | (go_at_call 29; refine (num_ok (sb := w.heap.size + 1) (bb := bb) (bo := bo) (cap := cap) (l := l) (at_ := 0) _ _ 14 4 (by rfl) (by rfl) (by omega) (by omega) (by exact hS3) (by exact hb3) (by omega)).mono ?_; rintro q w' ⟨rfl, hw'⟩; obtain rfl := hw'.symm; rw [EM.out]) | (go_at_call 29; refine (num_ok (sb := w.heap.size + 1) (bb := bb) (bo := bo) (cap := cap) (l := l) (at_ := 0) _ _ 18 4 (by rfl) (by rfl) (by omega) (by omega) (by exact hS3) (by exact hb3) (by omega)).mono ?_; rintro q w' ⟨rfl, hw'⟩; obtain rfl := hw'.symm; rw [EL.out]) | (go_at_call 30; refine KN.mono ?_; rintro q w4 ⟨rfl, hB4, hS4⟩; have z2 := hS4.scn.c2; have z3 := hS4.scn.c3; have zE : ((e.1 : Int) == 0) = false := (by have := hS4.errs e rfl; simp; omega); simp only [eR, pR] at z2 z3))
  have hRz := hR3.later hB4 (by omega) (by omega)
  have hBz : Below w.heap.size w w4 := (But.of_below hBB |>.trans (hB4.mono (by omega) (fun _ x => x))).below (fun k hk x => by omega)
  clear hS4 hB4 hR3 hb3 hS3 hX3 KN hBB e2
  have d0 := hRz.cell (i := 0) rfl
  have f0 := hRz.frozen 0
  have d1 := hRz.cell (i := 1) rfl
  have f1 := hRz.frozen 1
  have d2 := hRz.cell (i := 2) rfl
  have f2 := hRz.frozen 2
  have d3 := hRz.cell (i := 3) rfl
  have f3 := hRz.frozen 3
  have d4 := hRz.cell (i := 4) rfl
  have f4 := hRz.frozen 4
  have d5 := hRz.cell (i := 5) rfl
  have f5 := hRz.frozen 5
  have d6 := hRz.cell (i := 6) rfl
  have f6 := hRz.frozen 6
  go_region
  go_wp2
  have hF := RowAt.drew (((((((hRz.set 0 (.int .i64 0)).set 1 (.int .i64 0)).set 2 (.int .i64 0)).set 3 (.int .i64 0)).set 4 (.slice none 0 0)).set 5 (.slice none 0 0)).set 6 (.slice none 0 0))
  have hG := (((((((hBz.setCell (p := ⟨w.heap.size, 0, none⟩) (Nat.le_refl _) (.int .i64 0)).setCell (p := ⟨w.heap.size, 1, none⟩) (Nat.le_refl _) (.int .i64 0)).setCell (p := ⟨w.heap.size, 2, none⟩) (Nat.le_refl _) (.int .i64 0)).setCell (p := ⟨w.heap.size, 3, none⟩) (Nat.le_refl _) (.int .i64 0)).setCell (p := ⟨w.heap.size, 4, none⟩) (Nat.le_refl _) (.slice none 0 0)).setCell (p := ⟨w.heap.size, 5, none⟩) (Nat.le_refl _) (.slice none 0 0)).setCell (p := ⟨w.heap.size, 6, none⟩) (Nat.le_refl _) (.slice none 0 0)).drew
  have hF2 : _ = some (Obj.cells _ 41 (0, 0)) := hF
  refine bodyPost_ret (results_cell_2 (p := 2) (u := 3) (t := 4) rfl _ _ w.heap.size 41 _ (0, 0) _ (by rfl) hF2 Tryz.underlying41 rfl (by kernel_rfl)) rfl ?_
  refine ⟨hG, ?_⟩
  rw [HE.out]
  rfl

end
end Go.Proofs.YtlghjjennhpjeaaGreatDoor

namespace Go.Proofs.YtlghjjennhpjeaaGreatDoor
open Go.RowKit Go.Deep

section
variable (bb bo cap : Nat) (l : List UInt8) (hl : l.length < 2 ^ 58) (hcap : l.length ≤ cap) (w : World) (hb : Byt w bb bo l) (hbb : bb < w.heap.size) (he : headE l = none) (ns : List (List UInt8)) (zs : List Nat) (hn : namesE l (le l 14 4) = .ok (ns, zs))

set_option maxHeartbeats 4000000 in
set_option maxRecDepth 100000 in
include hl hcap hb hbb he hn in
theorem parse_long (hq : ¬ le l 18 4 = lengthS (le l 6 1) zs) :
    Calls Tryz.prog 12 #[(.slice (some ⟨bb, bo, none⟩) l.length cap)] w (ParsePost l w) := by
  have HE : Hid (parseE l = .error (7, 18)) := by
    show parseE l = _
    unfold parseE
    rw [he, hn]
    simp only
    rw [if_neg hq]
  obtain ⟨g1, g2, g3⟩ := head_right l he
  have h32 : 32 ≤ l.length := by have := sealE_room g2; omega
  have hr := headR_none g3
  have hhead : ∀ sb w1, bb ≠ sb → ScR w1 sb (.slice (some ⟨bb, bo, none⟩) l.length cap) 0 none → Byt w1 bb bo l → bb < w1.heap.size →
      Calls Tryz.prog 28 #[.pointer (some ⟨sb, 0, none⟩)] w1 fun q w' => q = .returned (.agg (shardL (le l 6 1) (le l 7 1) (le l 8 1) (le l 10 4) (.slice none 0 0) (.slice none 0 0) (.slice none 0 0)).toArray) ∧ ScR w' sb (.slice (some ⟨bb, bo, none⟩) l.length cap) 0 none ∧ But w1.heap.size (· = sb) w1 w' := fun sb w1 hbs h3 h4 h5 => by
    have := head_ok sb bb bo cap hbs l (by omega) hcap w1 h3 h4 h5 g1 g2
    rw [g3] at this
    exact this
  obtain ⟨k, ek⟩ : ∃ k, le l 6 1 = k := ⟨_, rfl⟩
  obtain ⟨n, en⟩ : ∃ n, le l 7 1 = n := ⟨_, rfl⟩
  obtain ⟨i, ei⟩ : ∃ i, le l 8 1 = i := ⟨_, rfl⟩
  obtain ⟨ch, ech⟩ : ∃ ch, le l 10 4 = ch := ⟨_, rfl⟩
  obtain ⟨m, em⟩ : ∃ m, le l 14 4 = m := ⟨_, rfl⟩
  obtain ⟨ln, eln⟩ : ∃ ln, le l 18 4 = ln := ⟨_, rfl⟩
  have EM : Hid (le l 14 4 = m) := em
  have EL : Hid (le l 18 4 = ln) := eln
  simp only [ek, en, ei, ech] at hhead
  rw [em] at hn
  simp only [ek, en, ei, ech, em, eln] at hr
  rw [ek, eln] at hq
  clear ek en ei ech em eln g1 g2 g3 he
  unfold shardL at hhead
  have hA : RowAt ((w.alloc (.cells (shardL 0 0 0 0 (.slice none 0 0) (.slice none 0 0) (.slice none 0 0)).toArray 41)).alloc (.cells (scanL (.slice (some ⟨bb, bo, none⟩) l.length cap) 0 0 0).toArray 81)) (w.heap.size + 1) (scanL (.slice (some ⟨bb, bo, none⟩) l.length cap) 0 0 0) 81 := by
    have := RowAt.made (w.alloc (.cells (shardL 0 0 0 0 (.slice none 0 0) (.slice none 0 0) (.slice none 0 0)).toArray 41)) (scanL (.slice (some ⟨bb, bo, none⟩) l.length cap) 0 0 0) 81
    simpa using this
  have hbe : But w.heap.size (fun _ => False) w ((w.alloc (.cells (shardL 0 0 0 0 (.slice none 0 0) (.slice none 0 0) (.slice none 0 0)).toArray 41)).alloc (.cells (scanL (.slice (some ⟨bb, bo, none⟩) l.length cap) 0 0 0).toArray 81)) := ((But.refl _ _ _).alloc (Nat.le_refl _) _).alloc (by simp) _
  have hR : RowAt ((w.alloc (.cells (shardL 0 0 0 0 (.slice none 0 0) (.slice none 0 0) (.slice none 0 0)).toArray 41)).alloc (.cells (scanL (.slice (some ⟨bb, bo, none⟩) l.length cap) 0 0 0).toArray 81)) w.heap.size (shardL 0 0 0 0 (.slice none 0 0) (.slice none 0 0) (.slice none 0 0)) 41 :=
    (RowAt.made w _ _).later (S := fun _ => False) (But.alloc (But.refl _ _ _) (Nat.le_refl _) _) (by simp) id
  have hsz : ((w.alloc (.cells (shardL 0 0 0 0 (.slice none 0 0) (.slice none 0 0) (.slice none 0 0)).toArray 41)).alloc (.cells (scanL (.slice (some ⟨bb, bo, none⟩) l.length cap) 0 0 0).toArray 81)).heap.size = w.heap.size + 2 := by simp
  have hS1 : ScR _ (w.heap.size + 1) (.slice (some ⟨bb, bo, none⟩) l.length cap) 0 none := ⟨hA, errs_none⟩
  have hb1 := hb.later hbe hbb id
  unfold shardL scanL at hS1 hb1 hR hbe hsz
  go_enter Tryz.func12, Tryz.ntmps12
  go_upto_region 2 with fail
  generalize (w.alloc (Obj.cells (List.toArray [Value.int .i64 ((0 : Nat) : Int), Value.int .i64 ((0 : Nat) : Int), Value.int .i64 ((0 : Nat) : Int), Value.int .i64 ((0 : Nat) : Int), Value.slice none 0 0, Value.slice none 0 0, Value.slice none 0 0]) 41)).alloc (Obj.cells (List.toArray [Value.slice (some ⟨bb, bo, none⟩) l.length cap, Value.int .i64 ((0 : Nat) : Int), Value.int .i64 ((0 : Nat) : Int), Value.int .i64 ((0 : Nat) : Int)]) 81) = w1 at hS1 hb1 hR hbe hsz ⊢
  go_upto_region 3 with (first | (go_at_call 28; refine (hhead (w.heap.size + 1) w1 (by omega) hS1 hb1 (by omega)).mono ?_; rintro q w2 ⟨rfl, hS2, hB2⟩))
  have hR2 := hR.later hB2 (by omega) (by omega)
  have hb2 := hb1.later hB2 (by omega) (by omega)
  have hsz2 := hB2.size
  have hX3 : ShX (w2.alloc (.cells (List.toArray [Value.int .i64 (k : Int), Value.int .i64 (n : Int), Value.int .i64 (i : Int), Value.int .i64 (ch : Int), Value.slice none 0 0, Value.slice none 0 0, Value.slice none 0 0]) 41)) w2.heap.size k n i ch (.slice none 0 0) (.slice none 0 0) (.slice none 0 0) := ⟨RowAt.made w2 _ _⟩
  have hbx : But w2.heap.size (fun _ => False) w2 (w2.alloc (.cells (List.toArray [Value.int .i64 (k : Int), Value.int .i64 (n : Int), Value.int .i64 (i : Int), Value.int .i64 (ch : Int), Value.slice none 0 0, Value.slice none 0 0, Value.slice none 0 0]) 41)) := But.alloc (But.refl _ _ _) (Nat.le_refl _) _
  have hS3 := hS2.later hbx hS2.lt id
  have hR3 := hR2.later hbx (by omega) id
  have hb3 := hb2.later hbx (by omega) id
  have hsz3 : (w2.alloc (.cells (List.toArray [Value.int .i64 (k : Int), Value.int .i64 (n : Int), Value.int .i64 (i : Int), Value.int .i64 (ch : Int), Value.slice none 0 0, Value.slice none 0 0, Value.slice none 0 0]) 41)).heap.size = w2.heap.size + 1 := by simp
  generalize w2.alloc (Obj.cells (List.toArray [Value.int .i64 (k : Int), Value.int .i64 (n : Int), Value.int .i64 (i : Int), Value.int .i64 (ch : Int), Value.slice none 0 0, Value.slice none 0 0, Value.slice none 0 0]) 41) = w3 at hX3 hbx hS3 hR3 hb3 hsz3 ⊢
  have hBB : Below w.heap.size w w3 := ((hbe.trans ((hB2.mono (by omega) (fun _ x => x)).below (fun k hk hs => by omega) |> But.of_below)).trans (hbx.mono (by omega) (fun _ x => x))).below (fun _ _ x => x)
  obtain ⟨xb, exb⟩ : ∃ xb, w2.heap.size = xb := ⟨_, rfl⟩
  rw [exb] at hX3 hsz3 ⊢
  have hxlt : w.heap.size + 2 ≤ xb := by omega
  clear hS2 hB2 hR2 hb2 hbx hsz2 hS1 hb1 hR hbe hsz hhead hA exb
  have KN := names_any (w.heap.size + 1) xb bb bo cap (by omega) (by omega) (by omega) l (by omega) hcap m (by omega) (by omega) k n i ch 0 w3 hS3 hX3 hb3 (by omega)
  unfold NamesPost at KN
  rw [hn] at KN
  simp only at KN
  have e2 := hS3.scn.c2
  simp only [eR] at e2
  obtain ⟨gs, gz, gl, gt, _⟩ := namesE_ok hn
  have hzz : ∀ j, zs.getD j 0 < 2 ^ 63 := fun j => by have := gz j; omega
  obtain ⟨L, eL⟩ : ∃ L, lengthS k zs = L := ⟨_, rfl⟩
  have HL : Hid (lengthS k zs = L) := eL
  rw [eL] at hq
  have hq2 : ((ln : Int) == (L : Int)) = false := by simp; omega
  clear eL
  go_upto_region 10 with (first | (go_at_call 29; refine (num_ok (sb := w.heap.size + 1) (bb := bb) (bo := bo) (cap := cap) (l := l) (at_ := 0) _ _ 14 4 (by rfl) (by rfl) (by omega) (by omega) (by exact hS3) (by exact hb3) (by omega)).mono ?_; rintro q w' ⟨rfl, hw'⟩; obtain rfl := hw'.symm; rw [EM.out]) | (go_at_call 29; refine (num_ok (sb := w.heap.size + 1) (bb := bb) (bo := bo) (cap := cap) (l := l) (at_ := 0) _ _ 18 4 (by rfl) (by rfl) (by omega) (by omega) (by exact hS3) (by exact hb3) (by omega)).mono ?_; rintro q w' ⟨rfl, hw'⟩; obtain rfl := hw'.symm; rw [EL.out]) | (go_at_call 30; refine KN.mono ?_; clear KN; rintro q w4 ⟨rfl, hB4, vN, vS, J⟩; have z2 := J.sc.scn.c2; have z1 := J.sc.scn.c1; have y1 := RowAt.frozen J.sc.scn 1; simp only [eR] at z2 z1; have x0 := J.sh.row.cell (i := 0) rfl; have x5 := J.sh.row.cell (i := 5) rfl; have hs4 := hB4.size; have hR4 := hR3.later hB4 (by omega) (by omega); have hb4 := hb3.later hB4 (by omega) (by omega); have hH4 := hold_owns J.os; have hBz4 : Below w.heap.size w w4 := (But.of_below hBB |>.trans (hB4.mono (by omega) (fun _ x => x))).below (fun k hk x => by omega); clear hR3 hb3 hS3 hX3 hBB e2 hB4) | (go_at_call 32; refine (length_any _ k (by rfl) (by omega) (by omega) vS zs hzz (by omega) _ (by exact hH4)).mono ?_; rintro q w' ⟨rfl, hw'⟩; obtain rfl := hw'.symm; rw [HL.out]) | (go_at_call 31; refine (must_r (sb := w.heap.size + 1) (at_ := 32) (r := none) false _ _ 7 18 (by rfl) (by rfl) (by decide) (by exact J.sc)).mono ?_; rintro q w5 ⟨rfl, hS5, hB5⟩; have z1 := hS5.scn.c1; have y1 := RowAt.frozen hS5.scn 1))
  have hS6 : ScR (w5.setCell ⟨w.heap.size + 1, 1, none⟩ (.int .i64 ((32 + m + 8 : Nat) : Int))) (w.heap.size + 1) (.slice (some ⟨bb, bo, none⟩) l.length cap) (32 + m + 8) (some (7, 18)) := ⟨hS5.scn.setAt _, hS5.errs⟩
  have hB6 : But w4.heap.size (· = w.heap.size + 1) w4 (w5.setCell ⟨w.heap.size + 1, 1, none⟩ (.int .i64 ((32 + m + 8 : Nat) : Int))) := hB5.setCell (p := ⟨w.heap.size + 1, 1, none⟩) (.inr rfl) _
  rw [show ((32 + m + 8 : Nat) : Int) = 32 + (m : Int) + 8 by omega] at hS6 hB6
  generalize w5.setCell ⟨w.heap.size + 1, 1, none⟩ (.int .i64 (32 + (m : Int) + 8)) = w6 at hS6 hB6 ⊢
  have hX6 := J.sh.later hB6 J.sh.row.lt (by omega)
  have hO6 := owns_later J.os (w' := w6) (fun g hg => hB6.block g (J.os.lt g hg).2 (by have := (J.os.lt g hg).1; omega))
  have hR6 := hR4.later hB6 (by omega) (by omega)
  have hBz6 : Below w.heap.size w w6 := (But.of_below hBz4 |>.trans (hB6.mono (by omega) (fun _ x => x))).below (fun k hk x => by omega)
  clear hS5 hB5 hB6 hR4 hBz4 hb4 hH4 z1 z2 y1 x0 x5
  have KF := frames_err (w.heap.size + 1) xb bb bo cap l k n i ch (32 + m + 8) (by omega) (by omega) vN vS zs hzz (by omega) ln w6 hX6 (hold_owns hO6) (7, 18) hS6
  go_upto_region 12 with (first | (go_at_call 33; refine KF.mono ?_; clear KF; rintro q w7 ⟨rfl, hh7, hB7⟩; have hS7 := hS6.heap hh7; have z2 := hS7.scn.c2; have z1 := hS7.scn.c1; have z3 := hS7.scn.c3; simp only [eR, pR] at z1 z2 z3) | (go_at_call 34; refine (fixed_late (w.heap.size + 1) _ 7 (by decide) _ (by exact z2) (by decide)).mono ?_; rintro q w' ⟨rfl, hw'⟩; obtain rfl := hw'.symm))
  have z2' : ∀ nq, (w7.drewN nq).cell? ⟨w.heap.size + 1, 2, none⟩ = some (.int .i64 ((7 : Nat) : Int)) := fun nq => z2
  go_big_quiet (first | (go_at_call 31; exact (must_stop _ _ _ _ 7 (by decide) _ (z2' _)).mono (fun _ _ h => ⟨h.1, _, h.2⟩)))
  go_upto_region 14 with fail
  have hRz : RowAt (w7.drewN nq) w.heap.size (shardL 0 0 0 0 (.slice none 0 0) (.slice none 0 0) (.slice none 0 0)) 41 := by
    have : (w7.drewN nq).heap = w6.heap := hh7
    unfold RowAt at *
    rw [this]; exact hR6
  have hBz : Below w.heap.size w (w7.drewN nq) := ((But.of_below hBz6 |>.trans (hB7.mono hBz6.size (fun _ x => x))).drewN nq).below (fun k hk x => by omega)
  have z2'' : (w7.drewN nq).cell? ⟨w.heap.size + 1, 2, none⟩ = some (.int .i64 ((7 : Nat) : Int)) := z2
  have z3'' : (w7.drewN nq).cell? ⟨w.heap.size + 1, 3, none⟩ = some (.int .i64 ((18 : Nat) : Int)) := z3
  clear z2' z1 z2 z3 hS7 hB7 hh7 hS6 hX6 hO6 hR6 hBz6 J
  generalize w7.drewN nq = wz at hRz hBz z2'' z3'' ⊢
  have d0 := hRz.cell (i := 0) rfl
  have f0 := hRz.frozen 0
  have d1 := hRz.cell (i := 1) rfl
  have f1 := hRz.frozen 1
  have d2 := hRz.cell (i := 2) rfl
  have f2 := hRz.frozen 2
  have d3 := hRz.cell (i := 3) rfl
  have f3 := hRz.frozen 3
  have d4 := hRz.cell (i := 4) rfl
  have f4 := hRz.frozen 4
  have d5 := hRz.cell (i := 5) rfl
  have f5 := hRz.frozen 5
  have d6 := hRz.cell (i := 6) rfl
  have f6 := hRz.frozen 6
  go_region
  go_wp2
  have hF := RowAt.drew (((((((hRz.set 0 (.int .i64 0)).set 1 (.int .i64 0)).set 2 (.int .i64 0)).set 3 (.int .i64 0)).set 4 (.slice none 0 0)).set 5 (.slice none 0 0)).set 6 (.slice none 0 0))
  have hG := (((((((hBz.setCell (p := ⟨w.heap.size, 0, none⟩) (Nat.le_refl _) (.int .i64 0)).setCell (p := ⟨w.heap.size, 1, none⟩) (Nat.le_refl _) (.int .i64 0)).setCell (p := ⟨w.heap.size, 2, none⟩) (Nat.le_refl _) (.int .i64 0)).setCell (p := ⟨w.heap.size, 3, none⟩) (Nat.le_refl _) (.int .i64 0)).setCell (p := ⟨w.heap.size, 4, none⟩) (Nat.le_refl _) (.slice none 0 0)).setCell (p := ⟨w.heap.size, 5, none⟩) (Nat.le_refl _) (.slice none 0 0)).setCell (p := ⟨w.heap.size, 6, none⟩) (Nat.le_refl _) (.slice none 0 0)).drew
  have hF2 : _ = some (Obj.cells _ 41 (0, 0)) := hF
  refine bodyPost_ret (results_cell_2 (p := 2) (u := 3) (t := 4) rfl _ _ w.heap.size 41 _ (0, 0) _ (by rfl) hF2 Tryz.underlying41 rfl (by kernel_rfl)) rfl ?_
  refine ⟨hG, ?_⟩
  rw [HE.out]
  rfl

end
end Go.Proofs.YtlghjjennhpjeaaGreatDoor

namespace Go.Proofs.YtlghjjennhpjeaaGreatDoor
open Go.RowKit Go.Deep

theorem below_drewM {B : Nat} {a w : World} (h : Below B a w) (n : Nat) : Below B a (w.drewN n) := h.trans ⟨rfl, rfl, rfl, Nat.le_refl _, fun _ _ => rfl⟩
section
variable (bb bo cap : Nat) (l : List UInt8) (hl : l.length < 2 ^ 58) (hcap : l.length ≤ cap) (w : World) (hb : Byt w bb bo l) (hbb : bb < w.heap.size) (he : headE l = none) (ns : List (List UInt8)) (zs : List Nat) (hn : namesE l (le l 14 4) = .ok (ns, zs)) (hq : le l 18 4 = lengthS (le l 6 1) zs)
set_option maxHeartbeats 4000000 in
set_option maxRecDepth 100000 in
include hl hcap hb hbb he hn hq in
theorem parse_frames (e : Nat × Nat) (hf : framesE l (decide (le l 8 1 < le l 6 1)) (le l 10 4) (le l 18 4) ((totalS zs : Int) - ((le l 8 1 * lengthS (le l 6 1) zs : Nat) : Int)) (le l 18 4) (32 + le l 14 4 + 8) [] = .error e) :
    Calls Tryz.prog 12 #[(.slice (some ⟨bb, bo, none⟩) l.length cap)] w (ParsePost l w) := by
  have HE : Hid (parseE l = .error e) := by
    show parseE l = _
    unfold parseE
    rw [he, hn]
    simp only
    rw [if_pos hq, hf]
  obtain ⟨g1, g2, g3⟩ := head_right l he
  have h32 : 32 ≤ l.length := by have := sealE_room g2; omega
  have hr := headR_none g3
  have hhead : ∀ sb w1, bb ≠ sb → ScR w1 sb (.slice (some ⟨bb, bo, none⟩) l.length cap) 0 none → Byt w1 bb bo l → bb < w1.heap.size →
      Calls Tryz.prog 28 #[.pointer (some ⟨sb, 0, none⟩)] w1 fun q w' => q = .returned (.agg (shardL (le l 6 1) (le l 7 1) (le l 8 1) (le l 10 4) (.slice none 0 0) (.slice none 0 0) (.slice none 0 0)).toArray) ∧ ScR w' sb (.slice (some ⟨bb, bo, none⟩) l.length cap) 0 none ∧ But w1.heap.size (· = sb) w1 w' := fun sb w1 hbs h3 h4 h5 => by
    have := head_ok sb bb bo cap hbs l (by omega) hcap w1 h3 h4 h5 g1 g2
    rw [g3] at this
    exact this
  obtain ⟨k, ek⟩ : ∃ k, le l 6 1 = k := ⟨_, rfl⟩
  obtain ⟨n, en⟩ : ∃ n, le l 7 1 = n := ⟨_, rfl⟩
  obtain ⟨i, ei⟩ : ∃ i, le l 8 1 = i := ⟨_, rfl⟩
  obtain ⟨ch, ech⟩ : ∃ ch, le l 10 4 = ch := ⟨_, rfl⟩
  obtain ⟨m, em⟩ : ∃ m, le l 14 4 = m := ⟨_, rfl⟩
  obtain ⟨ln, eln⟩ : ∃ ln, le l 18 4 = ln := ⟨_, rfl⟩
  have EM : Hid (le l 14 4 = m) := em
  have EL : Hid (le l 18 4 = ln) := eln
  simp only [ek, en, ei, ech] at hhead
  rw [em] at hn
  simp only [ek, ei, ech, em, eln] at hf
  rw [ek, eln] at hq
  simp only [ek, en, ei, ech, em, eln] at hr
  clear ek en ei ech em eln g1 g2 g3 he
  unfold shardL at hhead
  have hA : RowAt ((w.alloc (.cells (shardL 0 0 0 0 (.slice none 0 0) (.slice none 0 0) (.slice none 0 0)).toArray 41)).alloc (.cells (scanL (.slice (some ⟨bb, bo, none⟩) l.length cap) 0 0 0).toArray 81)) (w.heap.size + 1) (scanL (.slice (some ⟨bb, bo, none⟩) l.length cap) 0 0 0) 81 := by
    have := RowAt.made (w.alloc (.cells (shardL 0 0 0 0 (.slice none 0 0) (.slice none 0 0) (.slice none 0 0)).toArray 41)) (scanL (.slice (some ⟨bb, bo, none⟩) l.length cap) 0 0 0) 81
    simpa using this
  have hbe : But w.heap.size (fun _ => False) w ((w.alloc (.cells (shardL 0 0 0 0 (.slice none 0 0) (.slice none 0 0) (.slice none 0 0)).toArray 41)).alloc (.cells (scanL (.slice (some ⟨bb, bo, none⟩) l.length cap) 0 0 0).toArray 81)) := ((But.refl _ _ _).alloc (Nat.le_refl _) _).alloc (by simp) _
  have hR : RowAt ((w.alloc (.cells (shardL 0 0 0 0 (.slice none 0 0) (.slice none 0 0) (.slice none 0 0)).toArray 41)).alloc (.cells (scanL (.slice (some ⟨bb, bo, none⟩) l.length cap) 0 0 0).toArray 81)) w.heap.size (shardL 0 0 0 0 (.slice none 0 0) (.slice none 0 0) (.slice none 0 0)) 41 :=
    (RowAt.made w _ _).later (S := fun _ => False) (But.alloc (But.refl _ _ _) (Nat.le_refl _) _) (by simp) id
  have hsz : ((w.alloc (.cells (shardL 0 0 0 0 (.slice none 0 0) (.slice none 0 0) (.slice none 0 0)).toArray 41)).alloc (.cells (scanL (.slice (some ⟨bb, bo, none⟩) l.length cap) 0 0 0).toArray 81)).heap.size = w.heap.size + 2 := by simp
  have hS1 : ScR _ (w.heap.size + 1) (.slice (some ⟨bb, bo, none⟩) l.length cap) 0 none := ⟨hA, errs_none⟩
  have hb1 := hb.later hbe hbb id
  unfold shardL scanL at hS1 hb1 hR hbe hsz
  go_enter Tryz.func12, Tryz.ntmps12
  go_upto_region 2 with fail
  generalize (w.alloc (Obj.cells (List.toArray [Value.int .i64 ((0 : Nat) : Int), Value.int .i64 ((0 : Nat) : Int), Value.int .i64 ((0 : Nat) : Int), Value.int .i64 ((0 : Nat) : Int), Value.slice none 0 0, Value.slice none 0 0, Value.slice none 0 0]) 41)).alloc (Obj.cells (List.toArray [Value.slice (some ⟨bb, bo, none⟩) l.length cap, Value.int .i64 ((0 : Nat) : Int), Value.int .i64 ((0 : Nat) : Int), Value.int .i64 ((0 : Nat) : Int)]) 81) = w1 at hS1 hb1 hR hbe hsz ⊢
  go_upto_region 3 with (first | (go_at_call 28; refine (hhead (w.heap.size + 1) w1 (by omega) hS1 hb1 (by omega)).mono ?_; rintro q w2 ⟨rfl, hS2, hB2⟩))
  have hR2 := hR.later hB2 (by omega) (by omega)
  have hb2 := hb1.later hB2 (by omega) (by omega)
  have hsz2 := hB2.size
  have hX3 : ShX (w2.alloc (.cells (List.toArray [Value.int .i64 (k : Int), Value.int .i64 (n : Int), Value.int .i64 (i : Int), Value.int .i64 (ch : Int), Value.slice none 0 0, Value.slice none 0 0, Value.slice none 0 0]) 41)) w2.heap.size k n i ch (.slice none 0 0) (.slice none 0 0) (.slice none 0 0) := ⟨RowAt.made w2 _ _⟩
  have hbx : But w2.heap.size (fun _ => False) w2 (w2.alloc (.cells (List.toArray [Value.int .i64 (k : Int), Value.int .i64 (n : Int), Value.int .i64 (i : Int), Value.int .i64 (ch : Int), Value.slice none 0 0, Value.slice none 0 0, Value.slice none 0 0]) 41)) := But.alloc (But.refl _ _ _) (Nat.le_refl _) _
  have hS3 := hS2.later hbx hS2.lt id
  have hR3 := hR2.later hbx (by omega) id
  have hb3 := hb2.later hbx (by omega) id
  have hsz3 : (w2.alloc (.cells (List.toArray [Value.int .i64 (k : Int), Value.int .i64 (n : Int), Value.int .i64 (i : Int), Value.int .i64 (ch : Int), Value.slice none 0 0, Value.slice none 0 0, Value.slice none 0 0]) 41)).heap.size = w2.heap.size + 1 := by simp
  generalize w2.alloc (Obj.cells (List.toArray [Value.int .i64 (k : Int), Value.int .i64 (n : Int), Value.int .i64 (i : Int), Value.int .i64 (ch : Int), Value.slice none 0 0, Value.slice none 0 0, Value.slice none 0 0]) 41) = w3 at hX3 hbx hS3 hR3 hb3 hsz3 ⊢
  have hBB : Below w.heap.size w w3 := ((hbe.trans ((hB2.mono (by omega) (fun _ x => x)).below (fun k hk hs => by omega) |> But.of_below)).trans (hbx.mono (by omega) (fun _ x => x))).below (fun _ _ x => x)
  obtain ⟨xb, exb⟩ : ∃ xb, w2.heap.size = xb := ⟨_, rfl⟩
  rw [exb] at hX3 hsz3 ⊢
  have hxlt : w.heap.size + 2 ≤ xb := by omega
  clear hS2 hB2 hR2 hb2 hbx hsz2 hS1 hb1 hR hbe hsz hhead hA exb
  have KN := names_any (w.heap.size + 1) xb bb bo cap (by omega) (by omega) (by omega) l (by omega) hcap m (by omega) (by omega) k n i ch 0 w3 hS3 hX3 hb3 (by omega)
  unfold NamesPost at KN
  rw [hn] at KN
  simp only at KN
  have e2 := hS3.scn.c2
  simp only [eR] at e2
  obtain ⟨gs, gz, gl, gt, _⟩ := namesE_ok hn
  have hzz : ∀ j, zs.getD j 0 < 2 ^ 63 := fun j => by have := gz j; omega
  have HL : Hid (lengthS k zs = ln) := hq.symm
  clear hq
  have h40 : 32 + m + 8 ≤ l.length := sealE_room gs
  go_upto_region 10 with (first | (go_at_call 29; refine (num_ok (sb := w.heap.size + 1) (bb := bb) (bo := bo) (cap := cap) (l := l) (at_ := 0) _ _ 14 4 (by rfl) (by rfl) (by omega) (by omega) (by exact hS3) (by exact hb3) (by omega)).mono ?_; rintro q w' ⟨rfl, hw'⟩; obtain rfl := hw'.symm; rw [EM.out]) | (go_at_call 29; refine (num_ok (sb := w.heap.size + 1) (bb := bb) (bo := bo) (cap := cap) (l := l) (at_ := 0) _ _ 18 4 (by rfl) (by rfl) (by omega) (by omega) (by exact hS3) (by exact hb3) (by omega)).mono ?_; rintro q w' ⟨rfl, hw'⟩; obtain rfl := hw'.symm; rw [EL.out]) | (go_at_call 30; refine KN.mono ?_; clear KN; rintro q w4 ⟨rfl, hB4, vN, vS, J⟩; have z2 := J.sc.scn.c2; have z1 := J.sc.scn.c1; have y1 := RowAt.frozen J.sc.scn 1; simp only [eR] at z2 z1; have x0 := J.sh.row.cell (i := 0) rfl; have x5 := J.sh.row.cell (i := 5) rfl; have hs4 := hB4.size; have hR4 := hR3.later hB4 (by omega) (by omega); have hb4 := hb3.later hB4 (by omega) (by omega); have hH4 := hold_owns J.os; have hBz4 : Below w.heap.size w w4 := (But.of_below hBB |>.trans (hB4.mono (by omega) (fun _ x => x))).below (fun k hk x => by omega); clear hR3 hb3 hS3 hX3 hBB e2 hB4) | (go_at_call 32; refine (length_any _ k (by rfl) (by omega) (by omega) vS zs hzz (by omega) _ (by exact hH4)).mono ?_; rintro q w' ⟨rfl, hw'⟩; obtain rfl := hw'.symm; rw [HL.out]) | (go_at_call 31; refine (must_true _ _ _ _).mono ?_; rintro q w' ⟨rfl, hw'⟩; obtain rfl := hw'.symm))
  have hS6 : ScR (w4.setCell ⟨w.heap.size + 1, 1, none⟩ (.int .i64 ((32 + m + 8 : Nat) : Int))) (w.heap.size + 1) (.slice (some ⟨bb, bo, none⟩) l.length cap) (32 + m + 8) none := ⟨J.sc.scn.setAt _, J.sc.errs⟩
  have hB6 : But w4.heap.size (· = w.heap.size + 1) w4 (w4.setCell ⟨w.heap.size + 1, 1, none⟩ (.int .i64 ((32 + m + 8 : Nat) : Int))) := (But.refl w4.heap.size (· = w.heap.size + 1) w4).setCell (p := ⟨w.heap.size + 1, 1, none⟩) (.inr rfl) _
  rw [show ((32 + m + 8 : Nat) : Int) = 32 + (m : Int) + 8 by omega] at hS6 hB6
  generalize w4.setCell ⟨w.heap.size + 1, 1, none⟩ (.int .i64 (32 + (m : Int) + 8)) = w6 at hS6 hB6 ⊢
  have hX6 := J.sh.later hB6 J.sh.row.lt (by omega)
  have hO6 := owns_later J.os (w' := w6) (fun g hg => hB6.block g (J.os.lt g hg).2 (by have := (J.os.lt g hg).1; omega))
  have hN6 := owns_later J.on (w' := w6) (fun g hg => hB6.block g (J.on.lt g hg).2 (by have := (J.on.lt g hg).1; omega))
  have hR6 := hR4.later hB6 (by omega) (by omega)
  have hb6 := hb4.later hB6 (by omega) (by omega)
  have hBz6 : Below w.heap.size w w6 := (But.of_below hBz4 |>.trans (hB6.mono (by omega) (fun _ x => x))).below (fun k hk x => by omega)
  have hs6 := hB6.size
  have KF := frames_ok (w.heap.size + 1) xb bb bo cap (by omega) (by omega) (by omega) l (by omega) hcap k n i ch (32 + m + 8) (by omega) (by omega) (by omega) vN vS zs hzz (by omega) ln (by omega) w6 hX6 (hold_owns hO6) hb6 (by omega) hS6 (by omega) hl (by omega) (by omega)
  unfold FramesPost at KF
  rw [hf] at KF
  simp only at KF
  clear hB6 hR4 hBz4 hb4 hH4 z1 z2 y1 x0 x5 hX6
  go_upto_region 12 with (first | (go_at_call 33; refine KF.mono ?_; clear KF; rintro q w7 ⟨rfl, vC, a, col, Q⟩; have z2 := Q.sc.scn.c2; have z1 := Q.sc.scn.c1; have z3 := Q.sc.scn.c3; simp only [eR, pR] at z1 z2 z3; have ze := Q.sc.errs e rfl; have zE : ((e.1 : Int) == 0) = false := (by simp; omega)) | (go_at_call 34; refine (fixed_late (w.heap.size + 1) _ e.1 ze _ (by exact z2) (by decide)).mono ?_; rintro q w' ⟨rfl, hw'⟩; obtain rfl := hw'.symm))
  have z2' : ∀ nq, (w7.drewN nq).cell? ⟨w.heap.size + 1, 2, none⟩ = some (.int .i64 (e.1 : Int)) := fun nq => z2
  go_big_quiet (first | (go_at_call 31; exact (must_stop _ _ _ _ e.1 ze _ (z2' _)).mono (fun _ _ h => ⟨h.1, _, h.2⟩)))
  go_upto_region 14 with fail
  have hR7 := hR6.later Q.but (by omega) (by omega)
  have hB7 : Below w.heap.size w w7 := (But.of_below hBz6 |>.trans (Q.but.mono hBz6.size (fun _ x => x))).below (fun k hk x => by omega)
  have hRz : RowAt (w7.drewN nq) w.heap.size (shardL 0 0 0 0 (.slice none 0 0) (.slice none 0 0) (.slice none 0 0)) 41 := hR7
  have hBz : Below w.heap.size w (w7.drewN nq) := below_drewM hB7 nq
  have z2'' : (w7.drewN nq).cell? ⟨w.heap.size + 1, 2, none⟩ = some (.int .i64 (e.1 : Int)) := z2
  have z3'' : (w7.drewN nq).cell? ⟨w.heap.size + 1, 3, none⟩ = some (.int .i64 (e.2 : Int)) := z3
  clear z2' z1 z2 z3
  generalize w7.drewN nq = wz at hRz hBz z2'' z3'' ⊢
  have d0 := hRz.cell (i := 0) rfl
  have f0 := hRz.frozen 0
  have d1 := hRz.cell (i := 1) rfl
  have f1 := hRz.frozen 1
  have d2 := hRz.cell (i := 2) rfl
  have f2 := hRz.frozen 2
  have d3 := hRz.cell (i := 3) rfl
  have f3 := hRz.frozen 3
  have d4 := hRz.cell (i := 4) rfl
  have f4 := hRz.frozen 4
  have d5 := hRz.cell (i := 5) rfl
  have f5 := hRz.frozen 5
  have d6 := hRz.cell (i := 6) rfl
  have f6 := hRz.frozen 6
  go_region
  go_wp2
  have hF := RowAt.drew (((((((hRz.set 0 (.int .i64 0)).set 1 (.int .i64 0)).set 2 (.int .i64 0)).set 3 (.int .i64 0)).set 4 (.slice none 0 0)).set 5 (.slice none 0 0)).set 6 (.slice none 0 0))
  have hG := (((((((hBz.setCell (p := ⟨w.heap.size, 0, none⟩) (Nat.le_refl _) (.int .i64 0)).setCell (p := ⟨w.heap.size, 1, none⟩) (Nat.le_refl _) (.int .i64 0)).setCell (p := ⟨w.heap.size, 2, none⟩) (Nat.le_refl _) (.int .i64 0)).setCell (p := ⟨w.heap.size, 3, none⟩) (Nat.le_refl _) (.int .i64 0)).setCell (p := ⟨w.heap.size, 4, none⟩) (Nat.le_refl _) (.slice none 0 0)).setCell (p := ⟨w.heap.size, 5, none⟩) (Nat.le_refl _) (.slice none 0 0)).setCell (p := ⟨w.heap.size, 6, none⟩) (Nat.le_refl _) (.slice none 0 0)).drew
  have hF2 : _ = some (Obj.cells _ 41 (0, 0)) := hF
  refine bodyPost_ret (results_cell_2 (p := 2) (u := 3) (t := 4) rfl _ _ w.heap.size 41 _ (0, 0) _ (by rfl) hF2 Tryz.underlying41 rfl (by kernel_rfl)) rfl ?_
  refine ⟨hG, ?_⟩
  rw [HE.out]
  rfl

end
end Go.Proofs.YtlghjjennhpjeaaGreatDoor

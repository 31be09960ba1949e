/-
  What the statement on Parse answers.
-/
import Derived.Test.YtkpcmfgeanlcnaaDoorPaA
import Derived.Test.YtkpcmfgeanlcnaaDoorScanR
namespace Go.Proofs.YtkpcmfgeanlcnaaDoor
open Go.RowKit Go.Deep

def noShd : Shd := ⟨0, 0, 0, 0, [], [], []⟩
/-- What a Parse tells: the shard, the error, the place. -/
def told (l : List UInt8) : Shd × Nat × Nat :=
  match parseE l with
  | .error e => (noShd, e.1, e.2)
  | .ok s => (s, 0, 0)
/-- A shard's lists, in memory of its own. -/
structure Own3 (B : Nat) (w : World) (s : Shd) (vN vS vC : Value) : Prop where
  n : w.ownsRow B 9 1 vN s.names.length (strV s.names)
  z : w.ownsRow B 3 1 vS s.sizes.length (natV s.sizes)
  c : w.ownsRow B 5 1 vC s.col.length (u8V s.col)
theorem Own3.both {B : Nat} {w : World} {s : Shd} {vN vS vC : Value} (h : Own3 B w s vN vS vC) : Both w s vN vS vC := ⟨owns_lies h.n (strV_length _), owns_lies h.z (natV_length _), owns_lies h.c (u8V_length _)⟩
theorem Own3.below {B : Nat} {w w' : World} {s : Shd} {vN vS vC : Value} (h : Own3 B w s vN vS vC) (hb : Below w.heap.size w w') : Own3 B w' s vN vS vC :=
  ⟨owns_later h.n (fun g hg => hb.block g (h.n.lt g hg).2), owns_later h.z (fun g hg => hb.block g (h.z.lt g hg).2), owns_later h.c (fun g hg => hb.block g (h.c.lt g hg).2)⟩
theorem Own3.other {B b : Nat} {w w' : World} {s : Shd} {vN vS vC : Value} {cs : List Value} (h : Own3 B w s vN vS vC) (hr : RowAt w b cs 36) (hb : But w.heap.size (· = b) w w') : Own3 B w' s vN vS vC :=
  ⟨owns_other hr hb h.n (by decide), owns_other hr hb h.z (by decide), owns_other hr hb h.c (by decide)⟩
theorem Own3.none (B : Nat) (w : World) : Own3 B w noShd (.slice none 0 0) (.slice none 0 0) (.slice none 0 0) := ⟨World.ownsRow_nil w B _ 1, World.ownsRow_nil w B _ 1, World.ownsRow_nil w B _ 1⟩

theorem ParsePost.told {l : List UInt8} {w w' : World} {q : Ending} (h : ParsePost l w q w') {s : Shd} {e p : Nat} (ht : told l = (s, e, p)) :
    ∃ vN vS vC, q = .returned (.tuple #[.agg (shardL s.k s.n s.i s.c vN vS vC).toArray, .int .i64 (e : Int), .int .i64 (p : Int)]) ∧ Below w.heap.size w w' ∧ Own3 w.heap.size w' s vN vS vC := by
  obtain ⟨h1, h2⟩ := h
  unfold Proofs.YtkpcmfgeanlcnaaDoor.told at ht
  cases hp : parseE l with
  | error x =>
    rw [hp] at h2 ht
    simp only [Prod.mk.injEq] at h2 ht
    obtain ⟨rfl, rfl, rfl⟩ := ht
    exact ⟨_, _, _, h2, h1, Own3.none _ _⟩
  | ok x =>
    rw [hp] at h2 ht
    simp only [Prod.mk.injEq] at h2 ht
    obtain ⟨rfl, rfl, rfl⟩ := ht
    obtain ⟨vN, vS, vC, e1, o1, o2, o3⟩ := h2
    exact ⟨vN, vS, vC, e1, h1, o1, o2, o3⟩
theorem told_le {l : List UInt8} {s : Shd} {e p : Nat} (ht : told l = (s, e, p)) : s.names.length ≤ 1000 ∧ s.sizes.length ≤ 1000 := by
  unfold told at ht
  cases hp : parseE l with
  | error x =>
    rw [hp] at ht
    simp only [Prod.mk.injEq] at ht
    obtain ⟨rfl, rfl, rfl⟩ := ht
    exact ⟨by decide, by decide⟩
  | ok x =>
    rw [hp] at ht
    simp only [Prod.mk.injEq] at ht
    obtain ⟨rfl, rfl, rfl⟩ := ht
    unfold parseE at hp
    cases he : headE l with
    | some e => rw [he] at hp; cases hp
    | none =>
      rw [he] at hp
      simp only at hp
      cases hn : namesE l (le l 14 4) with
      | error e => rw [hn] at hp; cases hp
      | ok y =>
        obtain ⟨ns, zs⟩ := y
        rw [hn] at hp
        simp only at hp
        have hk := namesE_ok hn
        split at hp
        · split at hp
          · cases hp
          · split at hp
            · cases hp
            · cases hp
              exact ⟨by show ns.length ≤ 1000; have := hk.2.2; omega, hk.2.2.1⟩
        · cases hp
section
variable (bb cap : Nat) (l : List UInt8) (hl : l.length < 2 ^ 58) (hcap : l.length ≤ cap) (w : World) (hb : Byt w bb 0 l) (hbb : bb < w.heap.size) (hTab : Tab w) (hPow : Pow w) (h16 : 4 ≤ w.heap.size) (a : Addr) (hE : Early w a) (hT : ErrT w)
set_option maxHeartbeats 1000000 in
set_option maxRecDepth 100000 in
include hl hcap hb hbb hTab hPow h16 hE hT in
theorem parsed_any : Calls Tryd.prog 11 #[.slice (some ⟨bb, 0, none⟩) l.length cap] w fun q w' => (∃ (s : Shd) (bn : Option Addr) (cn : Nat) (bz : Option Addr) (cz : Nat) (bc : Option Addr) (cc : Nat), q = .returned (.tuple #[.agg #[.int .i64 (s.k : Int), .int .i64 (s.n : Int), .int .i64 (s.i : Int), .int .i64 (s.c : Int), .slice bn s.names.length cn, .slice bz s.sizes.length cz, .slice bc s.col.length cc], .bool true])) ∧ Below w.heap.size w w' := by
  have hb0 := (Below.refl w.heap.size w).alloc (Nat.le_refl _) (.cells zero7.toArray 36)
  have hx0 : RowAt (w.alloc (.cells zero7.toArray 36)) w.heap.size zero7 36 := RowAt.made w _ _
  unfold zero7 shardL at hb0 hx0
  obtain ⟨⟨s, e, p⟩, ht⟩ : ∃ x, told l = x := ⟨_, rfl⟩
  go_enter Tryd.func11, Tryd.ntmps11
  go_upto_region 1 with (fail)
  generalize hw0 : w.alloc _ = w0 at hb0 hx0 ⊢
  clear hw0
  have hbt0 := hb.later (S := fun _ => False) (.of_below hb0) hbb id
  have hs0 : w.heap.size < w0.heap.size := hx0.lt
  have KP := parseP_any l (.slice (some ⟨bb, 0, none⟩) l.length cap) w0 (.inr ⟨_, _, rfl, hcap, fun _ => id, fun j hj => by rw [add_off]; exact hbt0 j hj⟩) (by omega) (hTab.below hb0 (by omega)) (hPow.belows hb0 h16) (by omega) a (hE.belows hb0) (hT.below hb0 (by omega))
  go_upto_region 2 with (first | (go_at_call 22; (with_reducible refine KP.mono ?_); rintro q w1 hq1; obtain ⟨vN, vS, vC, rfl, hB1, hO1⟩ := hq1.told ht; clear hq1; unfold shardL; obtain ⟨bn, cn, rfl⟩ := owns_slice hO1.n; obtain ⟨bz, cz, rfl⟩ := owns_slice hO1.z; obtain ⟨bc, cc, rfl⟩ := owns_slice hO1.c))
  clear KP
  have hs1 := hB1.size
  have hb2 := (Below.refl w1.heap.size w1).alloc (Nat.le_refl _) (.cells (shardL s.k s.n s.i s.c (.slice bn s.names.length cn) (.slice bz s.sizes.length cz) (.slice bc s.col.length cc)).toArray 36)
  have hx2 : RowAt (w1.alloc (.cells (shardL s.k s.n s.i s.c (.slice bn s.names.length cn) (.slice bz s.sizes.length cz) (.slice bc s.col.length cc)).toArray 36)) w1.heap.size _ 36 := RowAt.made w1 _ _
  have hO2 := hO1.below hb2
  have hx0' := (hx0.later (S := fun _ => False) (.of_below hB1) hx0.lt id).later (S := fun _ => False) (.of_below hb2) (by omega) id
  have hbt2 := (hbt0.later (S := fun _ => False) (.of_below hB1) (by omega) id).later (S := fun _ => False) (.of_below hb2) (by omega) id
  have hB2 : Below w.heap.size w _ := (hb0.trans (hB1.mono (by omega))).trans (hb2.mono (by omega))
  obtain ⟨g4, eg4⟩ : ∃ g, w1.heap.size = g := ⟨_, rfl⟩
  unfold shardL at hb2 hx2 hO2 hx0' hbt2 hB2
  generalize hw2 : World.alloc w1 _ = w2 at hb2 hx2 hO2 hx0' hbt2 hB2 ⊢
  clear hw2 hO1 hbt0 hx0 hb0
  rw [eg4] at hx2 ⊢
  have KR := parse_any bb 0 cap l hl hcap w2 hbt2 (by have := hB2.size; omega)
  go_upto_region 3 with (first | (go_at_call 23; (with_reducible refine KR.mono ?_); rintro q w3 hq1; obtain ⟨vN, vS, vC, rfl, hB3, hO3⟩ := hq1.told ht; clear hq1; unfold shardL; obtain ⟨bn', cn', rfl⟩ := owns_slice hO3.n; obtain ⟨bz', cz', rfl⟩ := owns_slice hO3.z; obtain ⟨bc', cc', rfl⟩ := owns_slice hO3.c))
  clear KR
  have hl2 := hx2.lt
  have hs3 := hB3.size
  have hb4 := (Below.refl w3.heap.size w3).alloc (Nat.le_refl _) (.cells (shardL s.k s.n s.i s.c (.slice bn' s.names.length cn') (.slice bz' s.sizes.length cz') (.slice bc' s.col.length cc')).toArray 36)
  have hx4 : RowAt (w3.alloc (.cells (shardL s.k s.n s.i s.c (.slice bn' s.names.length cn') (.slice bz' s.sizes.length cz') (.slice bc' s.col.length cc')).toArray 36)) w3.heap.size _ 36 := RowAt.made w3 _ _
  have hO4 := hO3.below hb4
  have hO5 := (hO2.below hB3).below hb4
  have hx5 := (hx2.later (S := fun _ => False) (.of_below hB3) hl2 id).later (S := fun _ => False) (.of_below hb4) (by omega) id
  have hx6 := (hx0'.later (S := fun _ => False) (.of_below hB3) (by omega) id).later (S := fun _ => False) (.of_below hb4) (by omega) id
  have hB4 : Below w.heap.size w _ := (hB2.trans (hB3.mono (by omega))).trans (hb4.mono (by omega))
  obtain ⟨g7, eg7⟩ : ∃ g, w3.heap.size = g := ⟨_, rfl⟩
  obtain ⟨g2, eg2⟩ : ∃ g, w.heap.size = g := ⟨_, rfl⟩
  unfold shardL at hb4 hx4 hO4 hO5 hx5 hx6 hB4
  have n42 : ¬ g4 = g2 := by omega
  have n72 : ¬ g7 = g2 := by omega
  have n24 : ¬ g2 = g4 := by omega
  have n27 : ¬ g2 = g7 := by omega
  generalize hw4 : World.alloc w3 _ = w4 at hb4 hx4 hO4 hO5 hx5 hx6 hB4 ⊢
  have hle := told_le ht
  rw [eg7] at hx4 ⊢
  rw [eg2] at hx6 hB4 ⊢
  have hl6 := hx6.lt
  have EG : Hid (w.heap.size = g2) := eg2
  clear hw4 hO3 hO2 hbt2 hx0' hx2 hb4 hb2 hB1 hB2 hB3 hs0 hs1 hs3 hl2 eg2 eg4 eg7 hb hbb hE hT hPow hTab h16 hcap
  have c0 := hx5.cell (i := 0) rfl
  have c1 := hx5.cell (i := 1) rfl
  have c2 := hx5.cell (i := 2) rfl
  have c3 := hx5.cell (i := 3) rfl
  have c4 := hx5.cell (i := 4) rfl
  have c5 := hx5.cell (i := 5) rfl
  have c6 := hx5.cell (i := 6) rfl
  have d0 := hx4.cell (i := 0) rfl
  have d1 := hx4.cell (i := 1) rfl
  have d2 := hx4.cell (i := 2) rfl
  have d3 := hx4.cell (i := 3) rfl
  have d4 := hx4.cell (i := 4) rfl
  have d5 := hx4.cell (i := 5) rfl
  have d6 := hx4.cell (i := 6) rfl
  have z0 := hx6.cell (i := 0) rfl
  have z1 := hx6.cell (i := 1) rfl
  have z2 := hx6.cell (i := 2) rfl
  have z3 := hx6.cell (i := 3) rfl
  have z4 := hx6.cell (i := 4) rfl
  have z5 := hx6.cell (i := 5) rfl
  have z6 := hx6.cell (i := 6) rfl
  have f0 := hx6.frozen
  have hx6d : RowAt w4.drew g2 _ _ := hx6
  have KS := sameShard_any s (by omega) (by omega) (.slice bn s.names.length cn) (.slice bz s.sizes.length cz) (.slice bc s.col.length cc) (.slice bn' s.names.length cn') (.slice bz' s.sizes.length cz') (.slice bc' s.col.length cc') w4.drew (by exact hO5.both.below (Below.refl _ _).drew) (by exact hO4.both.below (Below.refl _ _).drew)
  unfold shardL at KS
  go_region_held3 (fun w' => (w'.cell? ⟨g4, 0, none⟩ = some (.int .i64 (s.k : Int)) ∧ w'.cell? ⟨g4, 1, none⟩ = some (.int .i64 (s.n : Int)) ∧ w'.cell? ⟨g4, 2, none⟩ = some (.int .i64 (s.i : Int)) ∧ w'.cell? ⟨g4, 3, none⟩ = some (.int .i64 (s.c : Int)) ∧ w'.cell? ⟨g4, 4, none⟩ = some (.slice bn s.names.length cn) ∧ w'.cell? ⟨g4, 5, none⟩ = some (.slice bz s.sizes.length cz) ∧ w'.cell? ⟨g4, 6, none⟩ = some (.slice bc s.col.length cc)) ∧ (w'.cell? ⟨g7, 0, none⟩ = some (.int .i64 (s.k : Int)) ∧ w'.cell? ⟨g7, 1, none⟩ = some (.int .i64 (s.n : Int)) ∧ w'.cell? ⟨g7, 2, none⟩ = some (.int .i64 (s.i : Int)) ∧ w'.cell? ⟨g7, 3, none⟩ = some (.int .i64 (s.c : Int)) ∧ w'.cell? ⟨g7, 4, none⟩ = some (.slice bn' s.names.length cn') ∧ w'.cell? ⟨g7, 5, none⟩ = some (.slice bz' s.sizes.length cz') ∧ w'.cell? ⟨g7, 6, none⟩ = some (.slice bc' s.col.length cc'))) (go_keep)
    ((first
      | (go_at_call 20; (with_reducible refine (numL_any _ _).mono ?_); rintro q w' ⟨rfl, hw'⟩; obtain rfl := hw'.symm)
      | (go_at_call 24; (with_reducible refine KS.mono ?_); rintro q w5 ⟨rfl, hB5⟩; have c0' := (hB5.cell (p := ⟨g4, 0, none⟩) (by exact hx5.lt)).trans c0; have c1' := (hB5.cell (p := ⟨g4, 1, none⟩) (by exact hx5.lt)).trans c1; have c2' := (hB5.cell (p := ⟨g4, 2, none⟩) (by exact hx5.lt)).trans c2; have c3' := (hB5.cell (p := ⟨g4, 3, none⟩) (by exact hx5.lt)).trans c3; have c4' := (hB5.cell (p := ⟨g4, 4, none⟩) (by exact hx5.lt)).trans c4; have c5' := (hB5.cell (p := ⟨g4, 5, none⟩) (by exact hx5.lt)).trans c5; have c6' := (hB5.cell (p := ⟨g4, 6, none⟩) (by exact hx5.lt)).trans c6; have d0' := (hB5.cell (p := ⟨g7, 0, none⟩) (by exact hx4.lt)).trans d0; have d1' := (hB5.cell (p := ⟨g7, 1, none⟩) (by exact hx4.lt)).trans d1; have d2' := (hB5.cell (p := ⟨g7, 2, none⟩) (by exact hx4.lt)).trans d2; have d3' := (hB5.cell (p := ⟨g7, 3, none⟩) (by exact hx4.lt)).trans d3; have d4' := (hB5.cell (p := ⟨g7, 4, none⟩) (by exact hx4.lt)).trans d4; have d5' := (hB5.cell (p := ⟨g7, 5, none⟩) (by exact hx4.lt)).trans d5; have d6' := (hB5.cell (p := ⟨g7, 6, none⟩) (by exact hx4.lt)).trans d6; have z0' := (hB5.cell (p := ⟨g2, 0, none⟩) (by exact hx6.lt)).trans z0; have z1' := (hB5.cell (p := ⟨g2, 1, none⟩) (by exact hx6.lt)).trans z1; have z2' := (hB5.cell (p := ⟨g2, 2, none⟩) (by exact hx6.lt)).trans z2; have z3' := (hB5.cell (p := ⟨g2, 3, none⟩) (by exact hx6.lt)).trans z3; have z4' := (hB5.cell (p := ⟨g2, 4, none⟩) (by exact hx6.lt)).trans z4; have z5' := (hB5.cell (p := ⟨g2, 5, none⟩) (by exact hx6.lt)).trans z5; have z6' := (hB5.cell (p := ⟨g2, 6, none⟩) (by exact hx6.lt)).trans z6; have f0' : ∀ i, w5.frozen? ⟨g2, i, none⟩ = false := (hx6d.later (S := fun _ => False) (.of_below hB5) (by exact hx6.lt) id).frozen)))
  go_wp2
  have hx7 := hx6d.later (S := fun _ => False) (.of_below hB5) (by exact hx6.lt) id
  obtain ⟨hF, hG⟩ := set7 (b0 := .int .i64 (s.k : Int)) (b1 := .int .i64 (s.n : Int)) (b2 := .int .i64 (s.i : Int)) (b3 := .int .i64 (s.c : Int)) (b4 := .slice bn s.names.length cn) (b5 := .slice bz s.sizes.length cz) (b6 := .slice bc s.col.length cc) hx7
  have hB5' : Below g2 w w5 := (hB4.drew).trans (hB5.mono (by show g2 ≤ w4.heap.size; omega))
  obtain rfl : w.heap.size = g2 := EG.out
  have hBB := ((But.of_below hB5' : But w.heap.size (fun _ => False) w w5).step hG (fun k hk e => by omega)).below (fun _ _ => id)
  refine bodyPost_ret (results_cell_1 (p := 2) (u := 3) rfl _ _ w.heap.size 36 _ (0, 0) _ (by rfl) hF Tryd.underlying36 rfl (by kernel_rfl)) rfl ?_
  exact ⟨⟨s, bn, cn, bz, cz, bc, cc, rfl⟩, hBB⟩
end
/-- '[]byte(s)': a new row that holds the string's bytes; nothing old has turned. -/
theorem bytes_made (s : ByteArray) (w : World) : ∃ cap w', (convert 9 24 (.string s)).run Tryd.prog w = .ok (.slice (some ⟨w.heap.size, 0, none⟩) s.data.toList.length cap) w' ∧ Below w.heap.size w w' ∧ w'.heap.size = w.heap.size + 1 ∧ s.data.toList.length ≤ cap ∧ Byt w' w.heap.size 0 s.data.toList := by
  have es : s.data.toList.length = s.size := Array.length_toList
  rw [es]
  refine ⟨_, _, run_bytes_of_string w _ _ 5 s Tryd.underlying9 Tryd.underlying24 Tryd.underlying5, ((Below.refl _ _).drew).alloc (Nat.le_refl _) _, ?_, grownCap_ge _ _ _ _, ?_⟩
  · simp
  · intro i hi
    rw [es] at hi
    have h := World.cell?_alloc_mark w.drew (bytesRow s (grownCap w s.size 0 5)) 5 ((bytesRow s (grownCap w s.size 0 5)).size, (bytesRow s (grownCap w s.size 0 5)).size + 1) i
    rw [Nat.zero_add]
    refine Eq.trans h ?_
    unfold bytesRow
    rw [Array.getElem?_append_left (by simpa using hi)]
    simp [bAt, hi]
set_option maxHeartbeats 1000000 in
set_option maxRecDepth 100000 in
theorem parses_any (s : ByteArray) (hs : s.data.toList.length < 2 ^ 58) (w : World) (hTab : Tab w) (hPow : Pow w) (h16 : 4 ≤ w.heap.size) (a : Addr) (hE : Early w a) (hT : ErrT w) :
    Calls Tryd.prog 5 #[.string s] w fun q w' => q = .returned (.bool true) ∧ Below w.heap.size w w' := by
  obtain ⟨cap, w1, hr1, hb1, hz1, hcap, hby⟩ := bytes_made s w
  obtain ⟨l, el⟩ : ∃ l, s.data.toList = l := ⟨_, rfl⟩
  rw [el] at hr1 hcap hby hs
  clear el
  have K := parsed_any w.heap.size cap l hs hcap w1 hby (by omega) (hTab.below hb1 (by omega)) (hPow.belows hb1 h16) (by omega) a (hE.belows hb1) (hT.below hb1 (by omega))
  have HZ : Hid (w1.heap.size = w.heap.size + 1) := hz1
  clear hby hcap hz1
  go_enter Tryd.func5, Tryd.ntmps5
  go_wp2_with (first | (go_at_call 11; (with_reducible refine K.mono ?_); rintro q w2 ⟨⟨sh, bn, cn, bz, cz, bc, cc, rfl⟩, hb2⟩))
  go_ret
  refine ⟨rfl, ?_⟩
  have hz := HZ.out
  have hs2 := hb2.size
  exact (hb1.trans (hb2.mono (by omega))).alloc (by omega) _
end Go.Proofs.YtkpcmfgeanlcnaaDoor

/-
  The fork of coding.Columns, whatever is above it: up to it, what stands there, what lies behind the join; from the join back.
-/
import Derived.Test.YtkpcmfgeanlcnabDoorEnT
import Derived.Test.YtkpcmfgeanlcnabDoorCoL
import Derived.Test.YtkpcmfgeanlcnabDoorLfP
namespace Go.Proofs.YtkpcmfgeanlcnabDoor
open Go.RowKit Go.Deep Go.Lf Go.Conc Go.ConcN Go.Gh
open Go.ConcR (Payload WgAt wgBlock)

theorem rea_here {P : Program} {Y : Nat → Option Obj} {Φ : Goroutine → World → Prop} {f : FuncId} {cs : List Frame} {k : List Item} {a : Act} {v : World} (h : ∀ w, Sim NoX Y w v → Φ (G ((base f).at a k) cs) w) : Rea P Y Φ f cs k a v := fun w hs => ⟨_, w, h w hs, .refl _ _⟩
theorem sfC : ∃ fn, Tryd.prog.funcs[21]? = some fn := ⟨_, Tryd.func21⟩
noncomputable def gc3 : Code := gSnd (gSnd (gSnd gBody))
noncomputable def qg3 : {x : Array Oper // x = gOps (gFst gc3)} := ⟨_, by simp only [gc3, gBody, gFst, gSnd, gOps, Tryd.f21, Option.getD_some]; rfl⟩
noncomputable def og3 : Array Oper := qg3.1
theorem gc3_eq : gc3 = .seq (.region 3 og3 false) gTail := by kernel_rfl
theorem ng3 : og3.size = 1 := by kernel_rfl

def TPc (bk bd ba : Nat) (T : Array Value) : Prop := ∃ f : Nat → Value, T = #[f 0, f 1, f 2, .pointer (some ⟨bk, 0, none⟩), f 4, f 5, f 6, .pointer (some ⟨bd, 0, none⟩), .pointer (some ⟨ba, 0, none⟩), f 9, f 10, f 11, f 12, f 13, f 14, f 15, f 16, f 17, f 18, f 19, f 20, f 21, f 22, f 23, f 24, f 25]
theorem tpc_mk {bk bd ba : Nat} {T : Array Value} (h : T = #[T.getD 0 undef, T.getD 1 undef, T.getD 2 undef, .pointer (some ⟨bk, 0, none⟩), T.getD 4 undef, T.getD 5 undef, T.getD 6 undef, .pointer (some ⟨bd, 0, none⟩), .pointer (some ⟨ba, 0, none⟩), T.getD 9 undef, T.getD 10 undef, T.getD 11 undef, T.getD 12 undef, T.getD 13 undef, T.getD 14 undef, T.getD 15 undef, T.getD 16 undef, T.getD 17 undef, T.getD 18 undef, T.getD 19 undef, T.getD 20 undef, T.getD 21 undef, T.getD 22 undef, T.getD 23 undef, T.getD 24 undef, T.getD 25 undef]) : TPc bk bd ba T := ⟨fun i => T.getD i undef, h⟩

/-- What stands at the fork. -/
structure PFc (k n L : Nat) (l : List UInt8) (bk bd P F ba C : Nat) (w : World) : Prop where
  vk : w.cell? ⟨bk, 0, none⟩ = some (.int .i64 ((k : Nat) : Int))
  vd : w.cell? ⟨bd, 0, none⟩ = some (.slice (some ⟨P, 0, none⟩) k k)
  hP : ∀ j, j < k → w.cell? ⟨P, j, none⟩ = some (.slice (some ⟨F, j * L, none⟩) L (k * L - j * L))
  hF : ∀ i, i < k * L → w.cell? ⟨F, i, none⟩ = some (.int .u8 ((bAt l i : Nat) : Int))
  va : w.cell? ⟨ba, 0, none⟩ = some (.slice (some ⟨C, 0, none⟩) n n)
  pay : w.heap[C]? = some (.cells (madeCells #[.slice none 0 0] n) 29)
  new : bk < C ∧ bd < C ∧ P < C ∧ F < C ∧ C < ba ∧ ba < w.heap.size

section
variable {X : Nat → Prop} {Y : Nat → Option Obj} {D : Nat → World → Array Event → Prop} {Stop : Goroutine → World → Prop} {w : World} {k n : Nat} {l : List UInt8} {vd : Value}
set_option maxHeartbeats 4000000 in
set_option maxRecDepth 100000 in
theorem columns_pre (hD : Dok X D) {cs : List Frame} (hk0 : 1 ≤ k) (hkn : k ≤ n) (hn : n ≤ 128) (hl : l.length ≤ 65536) (hv : Lies w vd (u8V l))
    (hnext : ∀ (bk bd P F ba C : Nat) (T : Array Value) (w1 : World), TPc bk bd ba T → PFc k n (lenC k l.length) l bk bd P F ba C w1 → (∀ b, b < w.heap.size → b < C) → (w.heap.size ≤ bk ∧ w.heap.size ≤ bd ∧ w.heap.size ≤ P ∧ w.heap.size ≤ F) → Bel w.heap.size w w1 → ReaI Tryd.prog X Y D Stop 21 cs [.code gc3] ⟨T, []⟩ w1) :
    ReaI Tryd.prog X Y D Stop 21 cs [.code gBody] ⟨#[.int .i64 ((k : Nat) : Int), .int .i64 ((n : Nat) : Int), vd] ++ Array.replicate 23 undef, []⟩ w := by
  unfold gBody
  simp only [Tryd.f21, Option.getD_some, Array.replicate_succ, Array.replicate_zero, List.push_toArray, List.append_toArray, List.nil_append, List.cons_append]
  have one : ∀ (u : World) (x : Value) (t : TypeId), (u.alloc (.cells #[x] t)).rowIs u.heap.size t 1 (fun _ => x) := fun u x t => World.rowIs_alloc u #[x] t (fun _ => x) (fun i hi => by
    obtain rfl : i = 0 := by simp at hi; omega
    rfl)
  refine reachI_go goodF hD (by kernel_rfl) rfl sfC fun R hR τ d' => ?_
  have hvA : Lies ({ w with tape := τ, drawn := d' } : World) vd (u8V l) := hv
  have hzA : ({ w with tape := τ, drawn := d' } : World).heap.size ≤ w.heap.size := Nat.le_refl _
  have hzB : w.heap.size ≤ ({ w with tape := τ, drawn := d' } : World).heap.size := Nat.le_refl _
  have hbA : Bel w.heap.size w { w with tape := τ, drawn := d' } := (Bel.refl _ w).tp τ d'
  generalize ({ w with tape := τ, drawn := d' } : World) = wA at hvA hzA hzB hbA ⊢
  have y0 := one wA (.int .i64 ((k : Nat) : Int)) 3
  have b0 : Below wA.heap.size wA (wA.alloc (.cells #[.int .i64 ((k : Nat) : Int)] 3)) := (Below.refl _ _).alloc (Nat.le_refl _) _
  have s0 : (wA.alloc (.cells #[.int .i64 ((k : Nat) : Int)] 3)).heap.size = wA.heap.size + 1 := by simp
  go_wp2
  have hv0 := hvA.below b0
  have bl0 := hbA.trans (Bel.of b0) hzB
  generalize wA.alloc (.cells #[.int .i64 ((k : Nat) : Int)] 3) = w0 at y0 b0 s0 hv0 bl0 ⊢
  clear b0
  refine reachI_go goodF hD (by kernel_rfl) rfl sfC fun R hR τ d' => ?_
  replace hv0 : Lies ({ w0 with tape := τ, drawn := d' } : World) vd (u8V l) := hv0
  replace y0 : ({ w0 with tape := τ, drawn := d' } : World).rowIs wA.heap.size 3 1 (fun _ => .int .i64 ((k : Nat) : Int)) := y0
  replace s0 : ({ w0 with tape := τ, drawn := d' } : World).heap.size = wA.heap.size + 1 := s0
  replace bl0 := bl0.tp τ d'
  generalize ({ w0 with tape := τ, drawn := d' } : World) = w0 at hv0 y0 s0 bl0 ⊢
  generalize hbk : wA.heap.size = bk at *
  have c1 := cut_any k hk0 (by omega) vd l hl w0 hv0
  have g0 := y0.cell (i := 0) (by omega)
  go_wp2_with (first | (go_at_call 30; (with_reducible refine c1.mono ?_); rintro e w1 ⟨P, F, rfl, hPc⟩))
  have hlo := hPc.lo
  have hb1 := hPc.bel
  have hPlt := hPc.list.lt
  have hFlt := hPc.row.lt
  have hs1 := hb1.size
  have v1 := one w1 (.slice (some ⟨P, 0, none⟩) k k) 32
  have s2 : (w1.alloc (.cells #[.slice (some ⟨P, 0, none⟩) k k] 32)).heap.size = w1.heap.size + 1 := by simp
  have ba1 : Below w1.heap.size w1 (w1.alloc (.cells #[.slice (some ⟨P, 0, none⟩) k k] 32)) := (Below.refl _ _).alloc (Nat.le_refl _) _
  have bl1 := (bl0.trans (Bel.of hb1) (by omega)).trans (Bel.of ba1) (by omega)
  have y1 := (y0.of_block (hb1.block bk (by omega))).of_block (ba1.block bk (by omega))
  have hls := hPc.list.of_block (ba1.block P hPlt)
  have hrw := hPc.row.of_block (ba1.block F hFlt)
  generalize w1.alloc (.cells #[.slice (some ⟨P, 0, none⟩) k k] 32) = wB at v1 s2 bl1 y1 hls hrw ⊢
  generalize hbd : w1.heap.size = bd at *
  clear hPc hb1 c1 g0 hv0 ba1
  refine reachI_go goodF hD (by kernel_rfl) rfl sfC fun R hR τ d' => ?_
  replace hls : ({ wB with tape := τ, drawn := d' } : World).rowIs _ _ _ _ := hls
  replace hrw : ({ wB with tape := τ, drawn := d' } : World).rowIs _ _ _ _ := hrw
  replace y1 : ({ wB with tape := τ, drawn := d' } : World).rowIs _ _ _ _ := y1
  replace v1 : ({ wB with tape := τ, drawn := d' } : World).rowIs _ _ _ _ := v1
  replace s2 : ({ wB with tape := τ, drawn := d' } : World).heap.size = bd + 1 := s2
  replace bl1 := bl1.tp τ d'
  generalize ({ wB with tape := τ, drawn := d' } : World) = wB at hls hrw y1 v1 s2 bl1 ⊢
  have m2 := make_lists n hn wB
  rw [s2] at m2
  generalize hZ : madeCells #[.slice none 0 0] n = Z at *
  have z2 : (wB.alloc (.cells Z 29)).heap[bd + 1]? = some (.cells Z 29) := by
    have := heap_alloc_new wB (.cells Z 29)
    rwa [s2] at this
  have s3 : (wB.alloc (.cells Z 29)).heap.size = bd + 2 := by simp [s2]
  have v2 := v1.alloc (.cells Z 29)
  have b2 : Below (bd + 1) wB (wB.alloc (.cells Z 29)) := (Below.refl _ _).alloc (by omega) _
  go_wp2
  generalize wB.alloc (.cells Z 29) = w2 at z2 s3 v2 b2 ⊢
  have v3 := one w2 (.slice (some ⟨bd + 1, 0, none⟩) n n) 32
  rw [s3] at v3
  have b3 := b2.alloc (by omega) (.cells #[.slice (some ⟨bd + 1, 0, none⟩) n n] 32)
  have z3 : (w2.alloc (.cells #[.slice (some ⟨bd + 1, 0, none⟩) n n] 32)).heap[bd + 1]? = some (.cells Z 29) := (Below.heap_alloc _ _ _ (by omega)).trans z2
  have v4 := v2.alloc (.cells #[.slice (some ⟨bd + 1, 0, none⟩) n n] 32)
  have s4 : (w2.alloc (.cells #[.slice (some ⟨bd + 1, 0, none⟩) n n] 32)).heap.size = bd + 3 := by simp [s3]
  generalize w2.alloc (.cells #[.slice (some ⟨bd + 1, 0, none⟩) n n] 32) = w3 at *
  have y3 := y1.of_block (b3.block bk (by omega))
  have l3 := hls.of_block (b3.block P (by omega))
  have f3 := hrw.of_block (b3.block F (by omega))
  refine hnext bk bd P F (bd + 2) (bd + 1) _ w3 (tpc_mk rfl) ⟨y3.cell (i := 0) (by omega), v4.cell (i := 0) (by omega), fun j hj => l3.cell hj, fun i hi => f3.cell hi, v3.cell (i := 0) (by omega), by rw [hZ]; exact z3, ⟨by omega, by omega, by omega, by omega, by omega, by omega⟩⟩ (fun b hb => by omega) ⟨by omega, by omega, by omega, by omega⟩ (bl1.trans (Bel.of b3) (by omega))
end

section
variable {k n L : Nat}
def pieceOf (F k L : Nat) (l : List UInt8) (j : Nat) : Col := ⟨some ⟨F, j * L, none⟩, F, j * L, k * L - j * L, (List.range L).map fun m => bAt l (j * L + m)⟩
def envK (k L : Nat) (l : List UInt8) (bk bd P F ba : Nat) (h0 : Nat → Option Obj) : EnvC := { ba := ba, bk := bk, bd := bd, bD := P, oD := 0, cD := k, cs := (List.range k).map (pieceOf F k L l), h0 := h0 }

set_option maxRecDepth 100000 in
set_option maxHeartbeats 4000000 in
theorem colfork_alloc {cs : List Frame} {bk bd ba : Nat} {T : Array Value} (W : World) (hT : TPc bk bd ba T) :
    ∃ T', (∀ E : EnvC, E.bk = bk → E.bd = bd → E.ba = ba → TB E W.heap.size T') ∧ Gets Tryd.prog (· = W.heap.size) (G ((base 21).at ⟨T, []⟩ [.code gc3]) cs) W (G ((base 21).at ⟨T', []⟩ [.code gTail]) cs) (W.alloc (wgBlock link.tWg 0 0)) := by
  obtain ⟨f, rfl⟩ := hT
  have noE : ∀ X w, EvsP X w #[] := fun _ _ _ he => by simp at he
  rw [gc3_eq]
  have key : ∀ (a : Act) (o : Oper) (u : Value) (W' : World), og3[0]? = some o → a.defers = [] → Region.wanted o (yielded og3 a.tmps) = true → (execOp a.eval o).run Tryd.prog W = .ok (.value u) W' → listed Tryd.prog 21 a o W = #[] → W.heap.size ≤ W'.heap.size →
      Gets Tryd.prog (· = W.heap.size) (G ((base 21).at a [.code (.seq (.region 3 og3 false) gTail)]) cs) W (G ((base 21).at (a.put o.dst u) [.code gTail]) cs) W' := by
    intro a o u W' ho ha hw hr hl hs
    refine .step rfl stepG_seq (noE _ _) (Nat.le_refl _) (.step rfl stepG_region (noE _ _) (Nat.le_refl _) ?_)
    rw [ng3]
    simp only [List.range, List.range.loop]
    refine .step rfl (stepG_value (b := base _) ho hw (by intro h; cases h) hr) (by rw [show (base 21).fn = 21 from rfl, hl]; exact noE _ _) hs ?_
    exact .step rfl stepG_region_end (noE _ _) (Nat.le_refl _) (.refl _ _)
  refine ⟨_, fun E h1 h2 h3 => ?_, key _ _ (.pointer (some ⟨W.heap.size, 0, none⟩)) _ (by simp only [og3, qg3]; rfl) rfl rfl (by go_simp; rfl) (listed_nil (by go_simp)) (by simp)⟩
  subst h1 h2 h3
  refine ⟨fun i => if i = 9 then undef else f i, ?_⟩
  rfl

theorem range_get {n i j : Nat} (h : (List.range n)[i]? = some j) : i < n ∧ j = i := by
  obtain ⟨h1, h2⟩ := List.getElem?_eq_some_iff.1 h
  simp at h1 h2
  exact ⟨h1, h2.symm⟩
theorem envK_ok {l : List UInt8} {bk bd P F ba : Nat} {h0 : Nat → Option Obj} (hk : 0 < k ∧ k ≤ 128) (hn : n ≤ 128) (hL : L ≤ 140737488355328) : EnvCOk (envK k L l bk bd P F ba h0) k n L := by
  refine ⟨hk.1, hk.2, hn, hL, by simp [envK], fun c hc => ?_⟩
  simp only [envK, List.mem_map] at hc
  obtain ⟨j, _, rfl⟩ := hc
  refine ⟨by simp [pieceOf, LenIs], fun y hy => ?_⟩
  simp only [pieceOf, List.mem_map] at hy
  obtain ⟨m, _, rfl⟩ := hy
  unfold bAt
  exact (l.getD _ 0).toNat_lt

theorem cell_alloc {W : World} {b o : Nat} {u : Value} (x : Obj) (h : W.cell? ⟨b, o, none⟩ = some u) : (W.alloc x).cell? ⟨b, o, none⟩ = some u := by
  have hb := cell_lt h
  simp only [World.cell?, Below.heap_alloc _ _ _ hb] at h ⊢
  exact h

theorem sim_blockX {X : Nat → Prop} {Y : Nat → Option Obj} {w v : World} {b : Nat} {c : Array Value} {t : TypeId} {fr : Nat × Nat} (h : Sim X Y w v) (hx : ¬ X b) (hb : v.heap[b]? = some (.cells c t fr)) : w.heap[b]? = some (.cells c t fr) := by
  cases hy : Y b with
  | none => rw [h.same b hx hy]; exact hb
  | some o =>
    obtain ⟨o', _, h2, hg⟩ := h.gho b _ hy
    rw [hb] at h2
    cases h2
    rcases hg with ⟨_, _, _, h4⟩ | ⟨_, _, _, h4⟩ <;> cases h4

theorem sfc_start [Payload] [OldG] (hpe : Payload.ety = 29) {X : Nat → Prop} {Y : Nat → Option Obj} {v3 W : World} {l : List UInt8} {lw bk bd P F ba C : Nat} (hold : ∀ b, OldG.old b → b < lw) (hX : ∀ b, X b → b < lw) (hge : lw ≤ bk ∧ lw ≤ bd ∧ lw ≤ P ∧ lw ≤ F) (hs : Sim X Y W v3) (hP : PFc k n L l bk bd P F ba C v3) {Wg : Nat} (hWg : W.heap.size = Wg + 1) (hba : ba < Wg) :
    SFc Wg C k n (Wg + 1) L (envK k L l bk bd P F ba (fun b => W.heap[b]?)) (Wg + 1) (gw W []) := by
  obtain ⟨n1, n2, n3, n4, n5, n6⟩ := hP.new
  have hsz := hs.size
  have st : ∀ {b o : Nat} {u : Value}, v3.cell? ⟨b, o, none⟩ = some u → (gw W []).cell? ⟨b, o, none⟩ = some u := fun {b o u} h => (show W.cell? ⟨b, o, none⟩ = some u from sim_cell hs h)
  have lo : ∀ {b : Nat}, b < Wg → b ≠ C → lw ≤ b → LoC Wg C (Wg + 1) b := fun {b} h h' hl => ⟨by omega, by omega, h', fun ho => by have := hold b ho; omega⟩
  have hsz1 : (gw W []).heap.size = Wg + 1 := hWg
  have hcs : ∀ {t : Nat} {c : Col}, ((List.range k).map (pieceOf F k L l))[t]? = some c → t < k ∧ c = pieceOf F k L l t := fun {t c} e => by
    rw [List.getElem?_map] at e
    obtain ⟨j', hj', rfl⟩ := Option.map_eq_some_iff.1 e
    obtain ⟨h1, rfl⟩ := range_get hj'
    exact ⟨h1, rfl⟩
  refine ⟨⟨?_, by omega, by omega, fun b hb => ?_⟩, ⟨madeCells #[.slice none 0 0] n, ?_, size_madeCells _ _⟩, ⟨lo (b := ba) (by omega) (by omega) (by omega), lo (b := bk) (by omega) (by omega) (by omega), lo (b := bd) (by omega) (by omega) (by omega), lo (b := P) (by omega) (by omega) (by omega), st hP.va, st hP.vk, st hP.vd, fun j c e => ?_, fun c hc => ?_, fun b _ _ _ => rfl⟩, ⟨by omega, by omega, by omega⟩⟩
  · unfold gw
    rw [tag_book]
    exact Nat.le_refl _
  · unfold gw at hb
    rw [own_book] at hb
    cases hb
  · rw [hpe]
    show W.heap[C]? = _
    exact sim_blockX hs (fun hx => by have := hX C hx; omega) hP.pay
  · obtain ⟨h1, rfl⟩ := hcs e
    simp only [envK, pieceOf, Nat.zero_add]
    exact st (hP.hP j h1)
  · simp only [envK, List.mem_map, List.mem_range] at hc
    obtain ⟨t, ht, rfl⟩ := hc
    refine ⟨lo (by show F < _; omega) (by show F ≠ C; omega) (by show lw ≤ F; omega), fun _ => rfl, fun i y e => ?_⟩
    simp only [pieceOf, List.getElem?_map] at e ⊢
    obtain ⟨j', hj', rfl⟩ := Option.map_eq_some_iff.1 e
    obtain ⟨h1, rfl⟩ := range_get hj'
    refine st (hP.hF _ ?_)
    have : t * L + L ≤ k * L := by rw [← Nat.succ_mul]; exact Nat.mul_le_mul_right L ht
    omega

theorem cell_up {W v : World} {X : Nat → Prop} {b o : Nat} {u : Value} (hk : ∀ b c t fr, ¬ X b → W.heap[b]? = some (.cells c t fr) → v.heap[b]? = some (.cells c t fr)) (hb : ¬ X b) (h : W.cell? ⟨b, o, none⟩ = some u) : v.cell? ⟨b, o, none⟩ = some u := by
  have h' := h
  unfold World.cell? at h'
  cases e : W.heap[b]? with
  | none => simp only [e] at h'; cases h'
  | some x =>
    cases x with
    | cells c t fr =>
      have := hk b c t fr hb e
      simp only [World.cell?, e] at h
      simp only [World.cell?, this]
      exact h
    | _ => simp only [e] at h'; cases h'

theorem sufc_of [Payload] [OldG] {X : Nat → Prop} {Y : Nat → Option Obj} {w2 v3 W W' v' : World} {s0 : Nat} {lb ids : List Nat} {l : List UInt8} {bk bd P F ba C : Nat} (hs : Sim X Y W v3) {Wg : Nat} (hWg : W.heap.size = Wg + 1) (hbaW : ba < Wg) (hb : Bel w2.heap.size w2 v3) (hlow : ∀ b, b < w2.heap.size → b < C) (hP : PFc k n L l bk bd P F ba C v3)
    (hk : ∀ b c t fr, ¬ (X b ∨ b = Wg) → W'.heap[b]? = some (.cells c t fr) → v'.heap[b]? = some (.cells c t fr)) (hX : ∀ b, X b → b < w2.heap.size)
    (hF : SFc Wg C k n (Wg + 1) L (envK k L l bk bd P F ba (fun b => W.heap[b]?)) s0 (gw W' lb)) (hids : ∀ x, x ∈ ids ↔ x < n)
    (hres : ∀ x ∈ ids, ∃ v l', Has C x v W' ∧ WPr C L ((envK k L l bk bd P F ba (fun b => W.heap[b]?)).res k L) x v (gw W' l') ∧ ∀ b ∈ l', Wg + 1 ≤ b) :
    (∃ dN : Nat → Nat, ∀ t, t < n → v'.cell? ⟨C, t, none⟩ = some (.slice (some ⟨dN t, 0, none⟩) L L) ∧ v'.heap[dN t]? = some (.cells (bytesA ((envK k L l bk bd P F ba (fun b => W.heap[b]?)).res k L t)) 5)) ∧ (∀ {b o : Nat} {u : Value}, w2.cell? ⟨b, o, none⟩ = some u → v'.cell? ⟨b, o, none⟩ = some u) ∧ v'.cell? ⟨ba, 0, none⟩ = some (.slice (some ⟨C, 0, none⟩) n n) := by
  obtain ⟨n1, n2, n3, n4, n5, n6⟩ := hP.new
  have hsz := hs.size
  have up : ∀ {b o : Nat} {u : Value}, ¬ X b → b ≠ Wg → W'.cell? ⟨b, o, none⟩ = some u → v'.cell? ⟨b, o, none⟩ = some u := fun hx hb h => cell_up (X := fun b => X b ∨ b = Wg) hk (fun e => e.elim hx hb) h
  have lw : ∀ {b o : Nat} {u : Value}, b < Wg → b ≠ C → v3.cell? ⟨b, o, none⟩ = some u → v'.cell? ⟨b, o, none⟩ = some u := fun {b o u} h h' hc => by
    refine up (hs.notX hc).1 (by omega) ?_
    have e1 : W'.heap[b]? = W.heap[b]? := hF.low.std b (by omega) (by omega) h'
    have e2 := sim_cell hs hc
    simp only [World.cell?, e1] at e2 ⊢
    exact e2
  have l2 : ∀ {b o : Nat} {u : Value}, w2.cell? ⟨b, o, none⟩ = some u → v'.cell? ⟨b, o, none⟩ = some u := fun {b o u} hc => by
    have h1 : b < w2.heap.size := cell_lt hc
    have h2 := hlow _ h1
    exact lw (by have := hb.size'; omega) (by omega) ((Below.cell (p := ⟨b, o, none⟩) hb h1).trans hc)
  have hmem : ∀ t, t < n → ∃ N', v'.cell? ⟨C, t, none⟩ = some (.slice (some ⟨N', 0, none⟩) L L) ∧ v'.heap[N']? = some (.cells (bytesA ((envK k L l bk bd P F ba (fun b => W.heap[b]?)).res k L t)) 5) := by
    intro t ht
    obtain ⟨v, l', h1, ⟨N', rfl, hmn, _, h2⟩, hl'⟩ := hres t ((hids t).2 ht)
    have hN' := hl' N' ((mine_gw W' l' N').1 hmn)
    refine ⟨N', up (fun hx => by have := hX C hx; have := hlow C this; omega) (by omega) h1, hk N' _ _ _ (fun e => ?_) h2⟩
    have e := e.resolve_left (fun hx => by have := hX N' hx; have := hlow N' this; omega)
    omega
  refine ⟨⟨fun t => if h : t < n then (hmem t h).choose else 0, fun t ht => ?_⟩, l2, lw (by omega) (by omega) hP.va⟩
  simp only [dif_pos ht]
  exact (hmem t ht).choose_spec
end

/-- What was there stands. -/
structure Kept (w w' : World) : Prop where
  os : w'.os = w.os
  output : w'.output = w.output
  size : w.heap.size ≤ w'.heap.size
  block : ∀ b, b < w.heap.size → w'.heap[b]? = w.heap[b]?
theorem Sim.agree {X : Nat → Prop} {Y : Nat → Option Obj} {w w' v v' : World} (h : Sim X Y w v) (h' : Sim X Y w' v') {b : Nat} (hx : ¬ X b) (e : v'.heap[b]? = v.heap[b]?) : w'.heap[b]? = w.heap[b]? := by
  cases hy : Y b with
  | none => rw [h.same b hx hy, h'.same b hx hy, e]
  | some o =>
    obtain ⟨_, h1, _⟩ := h.gho b o hy
    obtain ⟨_, h2, _⟩ := h'.gho b o hy
    rw [h1, h2]
theorem no_ev {Wg : Nat} (w : World) (es : Array Event) (h : EvsP (fun b => some b = some Wg) w es) : ∀ e ∈ es, EvM (ShN Wg) e := by
  intro e he
  rcases h e he with ⟨a, wr, rfl, _, h3⟩ | ⟨r, wr, sy, rfl, _, _⟩ | ⟨m0, hm0, rfl⟩
  · refine ⟨fun x hx hs => ?_, by simp, by simp⟩
    simp only [MemAct.ofEvent, MemAct.touch?, Option.some.injEq] at hx
    subst hx
    obtain ⟨a', h4, h5⟩ := hs
    cases h4
    exact absurd (congrArg some h5) h3
  · refine ⟨fun x hx hs => ?_, by simp, by simp⟩
    obtain ⟨a', h4, _⟩ := hs
    cases wr <;> cases sy <;> simp only [MemAct.ofEvent, MemAct.touch?, Option.some.injEq, reduceCtorEq] at hx <;> (subst hx; cases h4)
  · rcases hm0 with rfl | ⟨_, rfl⟩ <;> exact ⟨fun x hx => by simp [MemAct.ofEvent, MemAct.touch?] at hx, by simp, by simp⟩

section
variable {P : Program} {F : FuncId → Bool} {X : Nat → Prop} {Y : Nat → Option Obj} {D : Nat → World → Array Event → Prop} {Stop : Goroutine → World → Prop} {f : FuncId} {k : List Item} {cs : List Frame} {a : Act} {v : World} {ops : Array Oper} {i : Nat} {rest : List Nat} {o : Oper}
theorem reaI_tape (τ : Nat → Question → Nat) (d : Nat) (h : ReaI P X Y D Stop f cs k a v) : ReaI P X Y D Stop f cs k a { v with tape := τ, drawn := d } := fun w ⟨τ0, d0, hs⟩ => h w ⟨τ0, d0, hs⟩
theorem reaI_op0 (hF : GoodF P F) (hD : Dok X D) (u : Value) (ho : ops[i]? = some o) (hw : Region.wanted o (yielded ops a.tmps) = true) (hok : okOp P F o = true) (hrun : ∀ z : World, (execOp a.eval o).run P z = .ok (.value u) z) (h : ReaI P X Y D Stop f cs (.inRegion ops rest :: k) (a.put o.dst u) v) : ReaI P X Y D Stop f cs (.inRegion ops (i :: rest) :: k) a v :=
  reaI_op hF hD ho hw hok fun τ d => ⟨_, hrun _, reaI_tape τ d h⟩
end

section
variable {X : Nat → Prop} {Y : Nat → Option Obj} {D : Nat → World → Array Event → Prop} {Stop : Goroutine → World → Prop} {v : World} {n C Wg j : Nat} {E : EnvC} {cs : List Frame} {f : Frame}
set_option maxHeartbeats 8000000 in
set_option maxRecDepth 100000 in
theorem backC (hD : Dok X D) {T : Array Value} {ops : Array Oper} (hT : TC E Wg n j T) (hba : v.cell? ⟨E.ba, 0, none⟩ = some (.slice (some ⟨C, 0, none⟩) n n))
    (hend : ∀ τ d, ∀ w, SimT X Y w { v with tape := τ, drawn := d } → GoesI Tryd.prog D Stop (G (f.finish (.slice (some ⟨C, 0, none⟩) n n)) cs) w) :
    ReaI Tryd.prog X Y D Stop 21 (f :: cs) (.inRegion ops [] :: [.code gEnd2]) ⟨T, []⟩ v := by
  have hD0 : Dok X D := hD
  obtain ⟨f0, rfl⟩ := hT
  refine reaI_end hD0 ?_
  unfold gEnd2
  simp only [og11, qg11]
  refine reachI_go goodF hD (by kernel_rfl) rfl sfC fun R hR τ d' => ?_
  have hb1 : ({ v with tape := τ, drawn := d' } : World).cell? ⟨E.ba, 0, none⟩ = some (.slice (some ⟨C, 0, none⟩) n n) := hba
  have hv1 := hend τ d'
  generalize { v with tape := τ, drawn := d' } = v1 at hb1 hv1 ⊢
  go_wp2
  refine reaI_ret (y := .slice (some ⟨C, 0, none⟩) n n) hD rfl Tryd.func21 (fun τ d => ?_) hv1
  exact results_tmp (fn := Tryd.f21) (t := 6) rfl _ _ _
end
end Go.Proofs.YtkpcmfgeanlcnabDoor

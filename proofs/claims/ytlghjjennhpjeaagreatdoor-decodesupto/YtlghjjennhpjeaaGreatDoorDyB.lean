/-
  The document's Decode: run alone.
-/
import Derived.Test.YtlghjjennhpjeaaGreatDoorRnD
import Derived.Test.YtlghjjennhpjeaaGreatDoorRnF
import Derived.Test.YtlghjjennhpjeaaGreatDoorScanR
import Derived.Test.YtlghjjennhpjeaaGreatDoorPcA
namespace Go.Proofs.YtlghjjennhpjeaaGreatDoor
open Go.RowKit Go.Deep Go.Hp

def verL (bs : Nat → List UInt8) (j : Nat) : List Nat := (List.range j).map fun i => erS (bs i)
theorem verL_len (bs : Nat → List UInt8) (j : Nat) : (verL bs j).length = j := by simp [verL]
theorem verL_succ (bs : Nat → List UInt8) (j : Nat) : natV (verL bs (j + 1)) = natV (verL bs j) ++ [.int .i64 ((erS (bs j) : Nat) : Int)] := by simp [verL, natV, List.range_succ]
/-- Lists of bytes whose blocks are there. -/
structure SlC (w : World) (bi : Option Addr) (n : Nat) (bs : Nat → List UInt8) (vi : Nat → Value) : Prop where
  sl : SlB w bi n bs vi
  at_ : ∀ i, i < n → ∃ g c, vi i = .slice (some ⟨g, 0, none⟩) (bs i).length c ∧ (bs i).length ≤ c ∧ g < w.heap.size ∧ (bs i).length ≤ 1048576
theorem parse_in {w w' : World} {bi : Option Addr} {n : Nat} {bs : Nat → List UInt8} {vi : Nat → Value} (h : SlC w bi n bs vi) (hb : Below w.heap.size w w') {i : Nat} (hi : i < n) : Calls Tryz.prog 12 #[vi i] w' (ParsePost (bs i) w') := by
  obtain ⟨g, c, e, h1, h2, h3⟩ := h.at_ i hi
  have hl := (h.sl.byt i hi).1.below hb
  rw [e] at hl ⊢
  refine parse_any g 0 c (bs i) (by omega) h1 w' (fun j hj => ?_) (Nat.lt_of_lt_of_le h2 hb.size)
  obtain ⟨b', o', e', hc⟩ := hl.get (u8V_get hj)
  cases e'
  exact hc
theorem doc_h {M : Nat} {sh : Nat → Shd} (hG : ∀ i, i < M → ShG (sh i)) (hE : TogD M sh 0) : AllD M sh ∧ 0 < M ∧ (sh 0).k ≤ M ∧ (∀ i, i < M → (sh i).col.length = lenC (sh 0).k (sh 0).sizes.sum) ∧ (∀ i, i < M → (sh i).i < (sh 0).n) ∧ ∀ i j, i < M → j < M → i ≠ j → (sh i).i ≠ (sh j).i := by
  rcases hE with ⟨h, _⟩ | ⟨h, _⟩ | ⟨h, _⟩ | ⟨_, hA, hD, h0, hk⟩
  · cases h
  · cases h
  · cases h
  refine ⟨hA, h0, hk, fun i hi => ?_, fun i hi => ?_, fun i j hi hj hne e => ?_⟩
  · obtain ⟨e1, _, _, _, e5⟩ := alld_eq hA hi
    rw [(hG i hi).col, e1, e5]
  · have := (hG i hi).k1.2.2.2
    rw [(alld_eq hA hi).2.1] at this
    exact this
  · rcases Nat.lt_or_ge i j with h | h
    · exact hD ⟨j, i, h, hj, e.symm⟩
    · exact hD ⟨i, j, by omega, hi, e⟩
def colR (sh : Nat → Shd) (vC : Nat → Value) (i : Nat) : List Value := [.int .i64 (((sh i).i : Nat) : Int), vC i]
theorem co_own {w : World} {B M L g c : Nat} {sh : Nat → Shd} {vC : Nat → Value} (ho : w.ownsRow B 55 2 (.slice (some ⟨g, 0, none⟩) M c) M (rowsT (colR sh vC) M)) (h0 : 0 < M) (hl : ∀ i, i < M → ∃ a p, vC i = .slice a L p) : CO w g 0 M (qOf L sh vC) := by
  have hr : ∀ i, i < M → w.rangeAt g (i * 2) (colR sh vC i) := fun i hi => own_range (c := fun e => colR sh vC e.l) (f := fun i => ⟨[], none, i, 0⟩) (fun _ => rfl) ho hi
  refine ⟨cell_lt (hr 0 h0 0 _ rfl), fun i hi => by rw [Nat.zero_add]; exact hr i hi 0 _ rfl, fun i hi => ?_⟩
  obtain ⟨a, p, e⟩ := hl i hi
  rw [Nat.zero_add, hr i hi 1 (vC i) rfl]
  simp only [qOf, e, slB, slC]
/-- Where the loop over the shards stands. -/
structure DJ (w : World) (bs : Nat → List UInt8) (j : Nat) (vN vS vC : Nat → Value) (vl vt : Value) (wr : World) : Prop where
  bel : Below w.heap.size w wr
  told : wr.ownsRow w.heap.size 3 1 vt j (natV (verL bs j))
  tk : Tk w.heap.size (tkL bs j) vN vS vC vl wr
  ap : ∀ i, i < (tkL bs j).length → ∀ g, (vS i).ownBlock = some g → vt.ownBlock ≠ some g
theorem DJ.tell {w : World} {bs : Nat → List UInt8} {j : Nat} {vN vS vC : Nat → Value} {vl vt v4 : Value} {wr w3 w4 : World} {o : Obj} (h : DJ w bs j vN vS vC vl vt wr) (hb : Below wr.heap.size wr w3) (hg : (w3.alloc o).grownBy w4 vt.ownBlock) (ho : w4.ownsRow w.heap.size 3 1 v4 (j + 1) (natV (verL bs j) ++ [.int .i64 ((erS (bs j) : Nat) : Int)])) (hk : v4.ownBlock = vt.ownBlock ∨ v4.ownBlock = some (w3.alloc o).heap.size) :
    Below w.heap.size w w4 ∧ w4.ownsRow w.heap.size 3 1 v4 (j + 1) (natV (verL bs (j + 1))) ∧ Tk w.heap.size (tkL bs j) vN vS vC vl w4 ∧ (∀ i, i < (tkL bs j).length → ∀ g, (vS i).ownBlock = some g → v4.ownBlock ≠ some g) ∧ (∀ b, wr.heap.size ≤ b → b < w3.heap.size → w4.heap[b]? = w3.heap[b]?) ∧ ∀ g, wr.heap.size ≤ g → g < w3.heap.size → v4.ownBlock ≠ some g := by
  have s1 := h.bel.size
  have s2 := hb.size
  have s3 : (w3.alloc o).heap.size = w3.heap.size + 1 := by simp
  have old : ∀ b, b < wr.heap.size → vt.ownBlock ≠ some b → w4.heap[b]? = wr.heap[b]? := fun b h1 h2 => by
    rw [hg.block b (by omega) (fun e => h2 e.symm), Below.heap_alloc _ _ b (by omega), hb.block b h1]
  have kd : ∀ {t sz n : Nat} {v : Value} {xs : List Value}, wr.ownsRow w.heap.size t sz v n xs → t ≠ 3 → w4.ownsRow w.heap.size t sz v n xs := fun {t sz n v xs} ow ht => owns_keep' ow fun g hg' => old g (ow.lt g hg').2 fun e => kind_ne ow h.told ht hg' e
  have hlt : ∀ g, vt.ownBlock = some g → g < wr.heap.size := fun g e => (h.told.lt g e).2
  refine ⟨((h.bel.trans (hb.mono s1)).alloc (by omega) o).grown hg (by omega) fun k e => (h.told.lt k e).1, by rw [verL_succ]; exact ho, ⟨kd h.tk.own (by decide), fun i hi => kd (h.tk.nm i hi) (by decide), fun i hi => owns_keep' (h.tk.sz i hi) fun g hg' => old g ((h.tk.sz i hi).lt g hg').2 (h.ap i hi g hg'), fun i hi => kd (h.tk.cl i hi) (by decide)⟩, fun i hi g e1 e2 => ?_, fun b h1 h2 => ?_, fun g h1 h2 e => ?_⟩
  · have h2 := ((h.tk.sz i hi).lt g e1).2
    rcases hk with hk | hk
    · exact h.ap i hi g e1 (hk.symm.trans e2)
    · rw [hk] at e2
      cases e2
      omega
  · rw [hg.block b (by omega) (fun e => by have := hlt b e.symm; omega), Below.heap_alloc _ _ b h2]
  · rcases hk with hk | hk
    · have := hlt g (hk.symm.trans e)
      omega
    · rw [hk] at e
      cases e
      omega
theorem one_col (x : Int) (a : Option Addr) (n c : Nat) : ∀ u ∈ [Value.int .i64 x, .slice a n c], u.oneCell' = true := by
  intro u hu
  simp at hu
  rcases hu with rfl | rfl <;> rfl
def AllC (x L : Nat) (l : List UInt8) (sh : Nat → Shd) : Prop := ∀ t, t < x → (sh t).col = colB (sh 0).k L l (sh t).i
/-- What the document tells. -/
def DocR (M : Nat) (sh : Nat → Shd) (vb : Value) (e : Nat) (w : World) : Prop :=
  (e ≠ 0 ∧ TogD M sh e ∧ vb = .slice none 0 0) ∨
  (TogD M sh 0 ∧ ∃ l, (∀ l', FitsC M sh l' → l = l') ∧ ((e = 0 ∧ FitsC M sh l ∧ ∃ B f, BlR B (sh 0).names (sh 0).sizes l (sh 0).names.length f vb w) ∨ (e = 13 ∧ ¬ FitsC M sh l ∧ vb = .slice none 0 0)))

set_option maxHeartbeats 8000000 in
set_option maxRecDepth 100000 in
theorem decode_ref (n cap : Nat) (bi : Option Addr) (bs : Nat → List UInt8) (vi : Nat → Value) (w : World) (hS : SlC w bi n bs vi) (hn : n ≤ 1048576) :
    Calls Tryz.prog 6 #[.slice bi n cap] w fun r w' => Below w.heap.size w w' ∧ ∃ vb vt e, r = .returned (.tuple #[vb, vt, .int .i64 ((e : Nat) : Int)]) ∧ w'.ownsRow w.heap.size 3 1 vt n (natV (verL bs n)) ∧ DocR (tkL bs n).length (shAt (tkL bs n)) vb e w' := by
  obtain ⟨i0, hi0, hz0, hz1, hz2⟩ := info_parts Tryz.infoIn
  obtain ⟨i1, hi1, hy0, hy1, hy2⟩ := info_parts Tryz.infoShard
  have D0 : DJ w bs 0 (fun _ => undef) (fun _ => undef) (fun _ => undef) (.slice none 0 0) (.slice none 0 0) w := ⟨Below.refl _ _, World.ownsRow_nil _ _ _ _, ⟨World.ownsRow_nil _ _ _ _, fun i hi => absurd hi (by simp [tkL]), fun i hi => absurd hi (by simp [tkL]), fun i hi => absurd hi (by simp [tkL])⟩, fun i hi => absurd hi (by simp [tkL])⟩
  go_enter Tryz.func6, Tryz.ntmps6
  go_wp2
  generalize hh : w.heap.size = h at *
  go_loopw [5, 6, 7] (fun vl vt vj wr => ∃ (j : Nat) (vN vS vC : Nat → Value), j ≤ n ∧ vj = .int .i64 (j : Int) ∧ DJ w bs j vN vS vC vl vt wr) (fun _ _ vj _ => n - (intOf vj).toNat)
  case atStart => exact ⟨0, _, _, _, by omega, rfl, D0⟩
  case round =>
    clear D0
    obtain ⟨j, vN, vS, vC, hj, rfl, hI⟩ := hrel
    have hs : h ≤ wr.heap.size := by have := hI.bel.size; omega
    by_cases hlt : j < n
    · have hlt' : (j : Int) < (n : Int) := by omega
      obtain ⟨b, o, rfl, hcell⟩ := hS.sl.cells (by omega)
      have c1 := below_cell hI.bel (Nat.le_refl _) (hcell j hlt)
      have kP := parse_in hS hI.bel hlt
      unfold ParsePost at kP
      obtain ⟨bt, ct, rfl⟩ := (Lies.owned hI.told).len
      rw [natV_length, verL_len] at *
      cases hpe : parseE (bs j) with
      | error e =>
        rw [hpe] at kP
        simp only at kP
        have hes : erS (bs j) = e.1 := by simp only [erS, hpe]
        have hne := parse_ne hpe
        have hne' : ((e.1 : Int) == 0) = false := by simp; omega
        have htk := tkL_no hpe
        have hset := fun (w3 : World) (hb : Below wr.heap.size wr w3) (o : Obj) (v4 : Value) (w4 : World) => hI.tell (v4 := v4) (w3 := w3) (w4 := w4) (o := o) hb
        rw [hes] at hset
        clear hcell hpe hes hne
        unfold zeroShard shardL at kP
        generalize e.1 = e1 at *
        generalize e.2 = e2 at *
        go_upto_region 7 with (first | (go_at_call 12; (with_reducible refine kP.mono ?_); rintro q w2 ⟨hb2, rfl⟩))
        have hb3 : Below wr.heap.size wr (w2.alloc (.cells #[.int .i64 0, .int .i64 0, .int .i64 0, .int .i64 0, .slice none 0 0, .slice none 0 0, .slice none 0 0] 41)) := hb2.alloc hb2.size _
        generalize w2.alloc (.cells #[.int .i64 0, .int .i64 0, .int .i64 0, .int .i64 0, .slice none 0 0, .slice none 0 0, .slice none 0 0] 41) = w3 at hb3 ⊢
        have hs3 := hb3.size
        have t3 := owns_keep' hI.told fun g hg => hb3.block g (hI.told.lt g hg).2
        replace hset := hset w3 hb3 (.cells #[.int .i64 (e1 : Int)] 3)
        rw [hh] at t3 hset
        clear kP c1 hb2
        generalize w2.heap.size = p9
        go_wp2_with (at_builtin; refine wpList_append_own_at _ rfl _ _ 34 rfl h 3 i0 (.int .i64 0) 1 8 Tryz.underlying34 hi0 hz0 hz1 hz2 rfl (by decide) _ _ _ rfl (t3.alloc _) ⟨w3.heap.size, 0, none⟩ 1 1 [.int .i64 (e1 : Int)] rfl rfl (cell_one_newD _ _ _) (one_intD _) (by unfold maxLen; omega) (by omega) (by simp; omega) ?_; intro v4 w4 ho4 hgrow _ hblk; have hz4 := hset _ _ hgrow ho4 hblk)
        go_roundw
        case rel => exact ⟨j + 1, vN, vS, vC, by omega, by go_num, by rw [hh]; exact hz4.1, by rw [hh]; exact hz4.2.1, by rw [hh, htk]; exact hz4.2.2.1, by rw [htk]; exact hz4.2.2.2.1⟩
        case measure => simp [intOf]; omega
      | ok s =>
        rw [hpe] at kP
        simp only at kP
        have hes : erS (bs j) = 0 := by simp only [erS, hpe]
        have htk := tkL_ok hpe
        have htl := tkL_len bs j
        have hset := fun (w3 : World) (hb : Below wr.heap.size wr w3) (o : Obj) (v4 : Value) (w4 : World) => hI.tell (v4 := v4) (w3 := w3) (w4 := w4) (o := o) hb
        rw [hes] at hset
        clear hcell hpe hes
        unfold shardL at kP
        go_upto_region 7 with (first | (go_at_call 12; (with_reducible refine kP.mono ?_); rintro q w2 ⟨hb2, xN, xS, xC, rfl, oN, oS, oC⟩; obtain ⟨bN, cN, rfl⟩ := (Lies.owned oN).len; obtain ⟨bS, cS, rfl⟩ := (Lies.owned oS).len; obtain ⟨bC, cC, rfl⟩ := (Lies.owned oC).len))
        generalize (strsV s.names).length = lN at *
        generalize (natV s.sizes).length = lS at *
        generalize (u8V s.col).length = lC at *
        have hb3 : Below wr.heap.size wr (w2.alloc (.cells #[.int .i64 (s.k : Int), .int .i64 (s.n : Int), .int .i64 (s.i : Int), .int .i64 (s.c : Int), .slice bN lN cN, .slice bS lS cS, .slice bC lC cC] 41)) := hb2.alloc hb2.size _
        have hR : RowAt (w2.alloc (.cells #[.int .i64 (s.k : Int), .int .i64 (s.n : Int), .int .i64 (s.i : Int), .int .i64 (s.c : Int), .slice bN lN cN, .slice bS lS cS, .slice bC lC cC] 41)) w2.heap.size [.int .i64 (s.k : Int), .int .i64 (s.n : Int), .int .i64 (s.i : Int), .int .i64 (s.c : Int), .slice bN lN cN, .slice bS lS cS, .slice bC lC cC] 41 := RowAt.made w2 [.int .i64 (s.k : Int), .int .i64 (s.n : Int), .int .i64 (s.i : Int), .int .i64 (s.c : Int), .slice bN lN cN, .slice bS lS cS, .slice bC lC cC] 41
        have oN3 := oN.alloc (.cells #[.int .i64 (s.k : Int), .int .i64 (s.n : Int), .int .i64 (s.i : Int), .int .i64 (s.c : Int), .slice bN lN cN, .slice bS lS cS, .slice bC lC cC] 41)
        have oS3 := oS.alloc (.cells #[.int .i64 (s.k : Int), .int .i64 (s.n : Int), .int .i64 (s.i : Int), .int .i64 (s.c : Int), .slice bN lN cN, .slice bS lS cS, .slice bC lC cC] 41)
        have oC3 := oC.alloc (.cells #[.int .i64 (s.k : Int), .int .i64 (s.n : Int), .int .i64 (s.i : Int), .int .i64 (s.c : Int), .slice bN lN cN, .slice bS lS cS, .slice bC lC cC] 41)
        have hp9 : wr.heap.size ≤ w2.heap.size := hb2.size
        generalize w2.alloc (.cells #[.int .i64 (s.k : Int), .int .i64 (s.n : Int), .int .i64 (s.i : Int), .int .i64 (s.c : Int), .slice bN lN cN, .slice bS lS cS, .slice bC lC cC] 41) = w3 at hb3 hR oN3 oS3 oC3 ⊢
        have hs3 := hb3.size
        have t3 := owns_keep' hI.told fun g hg => hb3.block g (hI.told.lt g hg).2
        replace hset := hset w3 hb3 (.cells #[.int .i64 0] 3)
        rw [hh] at t3 hset
        clear kP c1 hb2 oN oS oC
        generalize w2.heap.size = p9 at *
        go_upto_region 8 with (at_builtin; refine wpList_append_own_at _ rfl _ _ 34 rfl h 3 i0 (.int .i64 0) 1 8 Tryz.underlying34 hi0 hz0 hz1 hz2 rfl (by decide) _ _ _ rfl (t3.alloc _) ⟨w3.heap.size, 0, none⟩ 1 1 [.int .i64 0] rfl rfl (cell_one_newD _ _ _) (one_intD _) (by unfold maxLen; omega) (by omega) (by simp; omega) ?_; intro v4 w4 ho4 hgrow _ hblk; have hz4 := hset _ _ hgrow ho4 hblk)
        obtain ⟨z1, z2, z3, z4, z5, z6⟩ := hz4
        clear hset hgrow ho4 hblk t3
        have hp3 : p9 < w3.heap.size := hR.lt
        replace hR : RowAt w4 p9 [.int .i64 (s.k : Int), .int .i64 (s.n : Int), .int .i64 (s.i : Int), .int .i64 (s.c : Int), .slice bN lN cN, .slice bS lS cS, .slice bC lC cC] 41 := (z5 p9 hp9 hp3).trans hR
        have kp : ∀ {t n : Nat} {v : Value} {xs : List Value}, w3.ownsRow wr.heap.size t 1 v n xs → w4.ownsRow h t 1 v n xs := fun ow => (owns_keep' ow fun g hg => z5 g (ow.lt g hg).1 (ow.lt g hg).2).mono hs
        have z7 : ∀ g, (Value.slice bS lS cS).ownBlock = some g → v4.ownBlock ≠ some g := fun g hg => z6 g (oS3.lt g hg).1 (oS3.lt g hg).2
        replace oN3 := kp oN3
        replace oS3 := kp oS3
        replace oC3 := kp oC3
        have hs4 : h ≤ w4.heap.size := hh ▸ z1.size
        clear kp z5 z6 hb3 hs3 hp9 hp3
        have c0 := hR.cell (i := 0) rfl
        have c1 := hR.cell (i := 1) rfl
        have c2 := hR.cell (i := 2) rfl
        have c3 := hR.cell (i := 3) rfl
        have c4 := hR.cell (i := 4) rfl
        have c5 := hR.cell (i := 5) rfl
        have c6 := hR.cell (i := 6) rfl
        obtain ⟨bt, ct, rfl⟩ : ∃ bt ct, u5 = .slice bt (tkL bs j).length ct := owns_form z3.own
        have sy : ∀ u ∈ ([.int .i64 (s.k : Int), .int .i64 (s.n : Int), .int .i64 (s.i : Int), .int .i64 (s.c : Int), .slice bN lN cN, .slice bS lS cS, .slice bC lC cC] : List Value), u.oneCell' = true := by
          intro u hu
          simp only [List.mem_cons, List.not_mem_nil, or_false] at hu
          rcases hu with rfl | rfl | rfl | rfl | rfl | rfl | rfl <;> rfl
        clear hR
        go_wp2_with (at_builtin; refine wpList_append_own _ rfl _ _ 39 rfl h 41 i1 (.agg #[.int .i64 0, .int .i64 0, .int .i64 0, .int .i64 0, .slice none 0 0, .slice none 0 0, .slice none 0 0]) 7 104 Tryz.underlying39 hi1 hy0 hy1 hy2 rfl (by decide) _ _ _ rfl (z3.own.alloc _) ⟨w4.heap.size, 0, none⟩ 1 1 [.int .i64 (s.k : Int), .int .i64 (s.n : Int), .int .i64 (s.i : Int), .int .i64 (s.c : Int), .slice bN lN cN, .slice bS lS cS, .slice bC lC cC] rfl rfl (cells_news _ _ _) sy (by unfold maxLen; omega) (by omega) (by simp; omega) ?_; intro v5 w5 hown5 hgrow _)
        replace hgrow : (w4.alloc (.cells #[.int .i64 (s.k : Int), .int .i64 (s.n : Int), .int .i64 (s.i : Int), .int .i64 (s.c : Int), .slice bN lN cN, .slice bS lS cS, .slice bC lC cC] 41)).grownBy w5 (Value.slice bt (tkL bs j).length ct).ownBlock := hgrow
        have b5 := app_below z3.own hs4 ((Below.refl w4.heap.size w4).alloc (Nat.le_refl _) _) hgrow (Nat.le_refl _)
        have t5 := app_keep z3.own z2 (by decide) ((Below.refl w4.heap.size w4).alloc (Nat.le_refl _) _) hgrow
        have k5 := (z3.keep (w' := w4.alloc (.cells #[.int .i64 (s.k : Int), .int .i64 (s.n : Int), .int .i64 (s.i : Int), .int .i64 (s.c : Int), .slice bN lN cN, .slice bS lS cS, .slice bC lC cC] 41)) (fun b _ hb2 => Below.heap_alloc _ _ b hb2)).more (s := s) (oN3.alloc _) (oS3.alloc _) (oC3.alloc _) hgrow hown5
        rw [← htk] at k5
        go_roundw
        case rel => exact ⟨j + 1, _, _, _, by omega, by go_num, by rw [hh]; exact z1.trans b5, by rw [hh]; exact t5, by rw [hh]; exact k5, fun i hi g e => by
          split at e
          · exact z7 g e
          · rw [htk, List.length_append, List.length_singleton] at hi
            exact z4 i (by omega) g e⟩
        case measure => simp [intOf]; omega
    · obtain rfl : j = n := by omega
      have hnl : ¬ ((j : Int) < (j : Int)) := by omega
      obtain ⟨bo, cp, rfl, hSd⟩ := hI.tk.sds (tkL_good bs j)
      have htl := tkL_len bs j
      have hG : ∀ i, i < (tkL bs j).length → ShG (shAt (tkL bs j) i) := fun i hi => tkL_good bs j _ (by simp [shAt, List.getD_eq_getElem?_getD, List.getElem?_eq_getElem hi])
      have hbel := hI.bel
      have htold := hI.told
      clear hI hS hlt
      generalize hM : (tkL bs j).length = M at hSd htl hG ⊢
      have HM : Hid ((tkL bs j).length = M) := hM
      generalize hsh : shAt (tkL bs j) = sh at hSd hG ⊢
      have HS : Hid (shAt (tkL bs j) = sh) := hsh
      clear hM hsh
      have kT := together_ref M cp bo sh vN vS vC wr (by omega) hSd (fun i hi => (hG i hi).ln)
      go_upto_region 11 with (first | (go_at_call 13; (with_reducible refine kT.mono ?_); rintro r w2 ⟨hb2, e, rfl, hE⟩))
      rw [hh] at hbel htold
      have hbel2 := hbel.trans (hb2.mono hs)
      have htold2 := owns_keep' htold fun g hg => hb2.block g (htold.lt g hg).2
      have hSd2 := hSd.below hb2 (Nat.le_refl _)
      clear kT hSd
      rcases Nat.eq_zero_or_pos e with he | he
      · subst he
        obtain ⟨hA, h0M, hkM, hcl, hix, hne⟩ := doc_h hG hE
        obtain ⟨i2, hi2, hx0, hx1, hx2⟩ := info_parts Tryz.infoC
        have hs2 : h ≤ w2.heap.size := hh ▸ hbel2.size
        have p0 : w2.ownsRow w2.heap.size 55 2 (.slice none 0 0) 0 (rowsT (colR sh vC) 0) := World.ownsRow_nil _ _ _ _
        obtain ⟨b, o, rfl, hbl, hcell⟩ := hSd2.cells h0M
        clear hb2 hbel htold hs
        go_wp2
        generalize h2e : w2.heap.size = h2 at *
        go_loopw [12, 13] (fun vc vi wq => ∃ i : Nat, i ≤ M ∧ vi = .int .i64 (i : Int) ∧ wq.ownsRow h2 55 2 vc i (rowsT (colR sh vC) i) ∧ Below h2 w2 wq) (fun _ vi _ => M - (intOf vi).toNat)
        case atStart => exact ⟨0, by omega, rfl, p0, Below.refl _ _⟩
        case round =>
          clear p0
          obtain ⟨i, hi, rfl, hc, hb⟩ := hrel
          have hsq : h2 ≤ wr.heap.size := h2e ▸ hb.size
          by_cases hlt : i < M
          · have hlt' : (i : Int) < (M : Int) := by omega
            have rj := hcell i hlt
            unfold shQ at rj
            obtain ⟨-, -, p2, -, -, -, p6⟩ := range7 rj
            have hnx : rowsT (colR sh vC) (i + 1) = rowsT (colR sh vC) i ++ [.int .i64 (((sh i).i : Nat) : Int), vC i] := rowsT_succ _ _
            obtain ⟨pc, cc, ec⟩ := (hSd2.cl i hlt).len
            replace p2 := below_cell hb (by omega) p2
            replace p6 := below_cell hb (by omega) p6
            rw [ec] at p6 hnx
            clear rj ec
            generalize (u8V (sh i).col).length = lc at *
            generalize (sh i).i = ix at *
            have HN : Hid _ := hnx
            clear hnx
            go_wp2_with fail
            go_region_law ((refine step_append_atR rfl _ _ 53 rfl h2 55 i2 (.agg #[.int .i64 0, .slice none 0 0]) 2 32 Tryz.underlying53 hi2 hx0 hx1 hx2 rfl (by decide) _ _ _ rfl ((hc.alloc _).drew) ⟨wr.heap.size, 0, none⟩ 1 1 [.int .i64 (ix : Int), .slice pc lc cc] rfl rfl (cell_two_new _ _ _ _) (one_col _ _ _ _) (by unfold maxLen; omega) (by omega) (by simp; omega) ?_; intro v3 w3 hc3 hgrow _; have hb3 := hb.trans (app_below hc hsq (((Below.refl wr.heap.size wr).alloc (Nat.le_refl _) _).drew) hgrow (Nat.le_refl _)); clear hgrow))
            all_goals
              go_wp2
              go_roundw
              case rel => exact ⟨i + 1, by omega, by go_num, by rw [HN.out]; exact hc3, hb3⟩
              case measure => simp [intOf]; omega
          · obtain rfl : i = M := by omega
            have hnl3 : ¬ ((i : Int) < (i : Int)) := by omega
            obtain ⟨gc, cc, rfl, -, hgc⟩ := hc.form h0M
            have hG0 := hG 0 h0M
            obtain ⟨k1, k2, k3, -⟩ := hG0.k1
            have htt := hG0.tot
            have hbr : Below w2.heap.size w2 wr := h2e ▸ hb
            have hCO := co_own (L := lenC (sh 0).k (sh 0).sizes.sum) hc h0M fun t ht => by
              obtain ⟨a, p, e⟩ := (hSd2.cl t ht).len
              rw [u8V_length, hcl t ht] at e
              exact ⟨a, p, e⟩
            have hSr := hSd2.below hbr (Nat.le_refl _)
            have hDO := do_of (bc := gc) hkM hcl hgc fun t ht => hSr.cl t ht
            obtain ⟨xs, hI, hsol, huq⟩ := doc_data (L := lenC (sh 0).k (sh 0).sizes.sum) k1 (by omega) hkM rfl rfl (fun t ht => by have := hix t (by omega); omega) (fun s t hs ht => hne s t (by omega) (by omega))
            have hLb : lenC (sh 0).k (sh 0).sizes.sum ≤ 65536 := by have := lenC_le k1 (sh 0).sizes.sum; omega
            have bd1 : Below wr.heap.size wr wr.drew := (Below.refl _ _).drew
            have kR := rebuilt_any (sh 0).k i gc 0 cc _ _ _ _ xs wr.drew k1 (by omega) hkM (by omega) (by show lenC _ _ ≤ _; omega) (fun t ht => by have := hix t (by omega); show (sh t).i < 128; omega) (hCO.below bd1 (Nat.le_refl _)) (hDO.below bd1 (Nat.le_refl _)) hI (fun m hm t ht => hsol m hm t ht)
            have hln := hG0.ln
            obtain ⟨bn, cn, en⟩ := (hSr.nm 0 h0M).1.len
            obtain ⟨bz, cz, ez⟩ := (hSr.sz 0 h0M).1.len
            obtain ⟨bq, cq, eq⟩ := (hSr.cl 0 h0M).len
            obtain ⟨b', o', e', _, hcr⟩ := hSr.cells h0M
            cases e'
            have r0 := hcr 0 h0M
            unfold shQ at r0
            obtain ⟨x0, x1, x2, x3, x4, x5, x6⟩ := range7 r0
            simp only [Nat.zero_mul, Nat.add_zero] at x0 x1 x2 x3 x4 x5 x6
            rw [en] at x4
            rw [ez] at x5
            rw [eq] at x6
            have hjl : (joinD (lsB (lenC (sh 0).k (sh 0).sizes.sum) xs) (sh 0).k).length = (sh 0).k * lenC (sh 0).k (sh 0).sizes.sum := joinD_len _ fun _ _ => lsB_len _ _ _
            have hjs := lenC_ge k1 (sh 0).sizes.sum
            have hjb : (sh 0).k * lenC (sh 0).k (sh 0).sizes.sum ≤ 128 * 65536 := Nat.mul_le_mul (by omega) hLb
            have kB : ∀ (w3 : World) (go : Nat) (ov : Nat → Value), Below wr.heap.size wr w3 → w3.rowIs go 24 (sh 0).k ov → (∀ j, j < (sh 0).k → w3.ownsRow wr.heap.size 5 1 (ov j) (lenC (sh 0).k (sh 0).sizes.sum) (bvL (lenC (sh 0).k (sh 0).sizes.sum) (xs j))) → Calls Tryz.prog 14 #[.agg #[.int .i64 ((sh 0).k : Int), .int .i64 ((sh 0).n : Int), .int .i64 ((sh 0).i : Int), .int .i64 ((sh 0).c : Int), .slice bn (nameV (sh 0).names).length cn, .slice bz (natV (sh 0).sizes).length cz, .slice bq (u8V (sh 0).col).length cq], .slice (some ⟨go, 0, none⟩) (sh 0).k (sh 0).k] w3 fun r w' => Below w3.heap.size w3 w' ∧ ∃ vo f, r = .returned vo ∧ BlR w3.heap.size (sh 0).names (sh 0).sizes (joinD (lsB (lenC (sh 0).k (sh 0).sizes.sum) xs) (sh 0).k) (sh 0).names.length f vo w' := fun w3 go ov hb3 hr ho => by
              have := blobs_ref (sh 0) (vN 0) (vS 0) (vC 0) (sh 0).k go wr.heap.size ov (lsB (lenC (sh 0).k (sh 0).sizes.sum) xs) w3 ((hSr.nm 0 h0M).1.below hb3) ((hSr.sz 0 h0M).1.below hb3) hln (hSr.nm 0 h0M).2 (fun j hj => hr.cell hj) (fun j hj => by rw [lsB_len, ← bvL_lsB]; exact ho j hj) (by omega) (by omega) (by omega)
              rw [en, ez, eq] at this
              exact this
            clear hcr r0 hcell hCO hDO hI hsol
            go_wp2_with fail
            go_region_held3 (fun w' => w'.cell? ⟨b, o, none⟩ = some (.int .i64 ((sh 0).k : Int)) ∧ w'.cell? ⟨b, o + 1, none⟩ = some (.int .i64 ((sh 0).n : Int)) ∧ w'.cell? ⟨b, o + 2, none⟩ = some (.int .i64 ((sh 0).i : Int)) ∧ w'.cell? ⟨b, o + 3, none⟩ = some (.int .i64 ((sh 0).c : Int)) ∧ w'.cell? ⟨b, o + 4, none⟩ = some (.slice bn (nameV (sh 0).names).length cn) ∧ w'.cell? ⟨b, o + 5, none⟩ = some (.slice bz (natV (sh 0).sizes).length cz) ∧ w'.cell? ⟨b, o + 6, none⟩ = some (.slice bq (u8V (sh 0).col).length cq)) (go_keep)
              ((first
                | (go_at_call 15; (with_reducible refine kR.mono ?_); rintro r w3 ⟨go, ov, rfl, hro, hov, hb3'⟩; have hb3 := bd1.trans hb3'; clear hb3'; replace hov : ∀ j, j < (sh 0).k → w3.ownsRow wr.heap.size 5 1 (ov j) (lenC (sh 0).k (sh 0).sizes.sum) (bvL (lenC (sh 0).k (sh 0).sizes.sum) (xs j)) := hov; have d0 := below_cell hb3 (Nat.le_refl _) x0; have d1 := below_cell hb3 (Nat.le_refl _) x1; have d2 := below_cell hb3 (Nat.le_refl _) x2; have d3 := below_cell hb3 (Nat.le_refl _) x3; have d4 := below_cell hb3 (Nat.le_refl _) x4; have d5 := below_cell hb3 (Nat.le_refl _) x5; have d6 := below_cell hb3 (Nat.le_refl _) x6)
                | (go_at_call 14; (with_reducible refine (kB _ _ _ hb3 hro hov).mono ?_); rintro r w4 ⟨hb4, vo, f, rfl, hBl⟩; have e0 := below_cell hb4 (Nat.le_refl _) d0; have e1 := below_cell hb4 (Nat.le_refl _) d1; have e2 := below_cell hb4 (Nat.le_refl _) d2; have e3 := below_cell hb4 (Nat.le_refl _) d3; have e4 := below_cell hb4 (Nat.le_refl _) d4; have e5 := below_cell hb4 (Nat.le_refl _) d5; have e6 := below_cell hb4 (Nat.le_refl _) d6)))
            have hb5 : Below wr.heap.size wr w4 := hb3.trans (hb4.mono hb3.size)
            have HLn : Hid ((sh 0).names.length = (sh 0).sizes.length) := hln
            rw [← joinD_parts] at huq
            clear hln kB kR hro hov d0 d1 d2 d3 d4 d5 d6 e2 e4 e5 e6 x0 x1 x2 x3 x4 x5 x6 hb4 hb3 hjb
            generalize joinD (lsB (lenC (sh 0).k (sh 0).sizes.sum) xs) (sh 0).k = l at *
            have hNO : NamesOk (sh 0).names := hG0.listed.names
            obtain ⟨hNf, hSt⟩ := doc_sorted (m := (sh 0).names.length) (fun j hj => (hBl.dat j hj).1) rfl hNO
            obtain ⟨bo4, cap4, rfl, hc4, hbo4, hBC⟩ := BC.of_owns hBl.row
            have bd4 : Below w4.heap.size w4 w4.drew := (Below.refl _ _).drew
            have kS := shards_any (sh 0).k (sh 0).n (sh 0).c (sh 0).names.length cap4 bo4 f (dBy (sh 0).names.length f (pcB (sh 0).sizes l)) w4.drew k1 k2 k3 (hSr.nm 0 h0M).2 hc4 hbo4 (hBC.up (Nat.le_refl _) (fun h => h)) (fun t ht => (hBl.data hNf ht).below bd4 (Nat.le_refl _)) (fun f' hR hS => by rw [doc_join hNf hSt HLn.out.symm hR hS, List.length_take]; omega)
            go_wp2_with fail
            go_region_held3 (fun w' => w'.cell? ⟨b, o, none⟩ = some (.int .i64 ((sh 0).k : Int)) ∧ w'.cell? ⟨b, o + 1, none⟩ = some (.int .i64 ((sh 0).n : Int)) ∧ w'.cell? ⟨b, o + 3, none⟩ = some (.int .i64 ((sh 0).c : Int))) (go_keep)
              ((first
                | (go_at_call 16; (with_reducible refine kS.mono ?_); rintro r w5 ⟨hb6', f', bN, bZ, cN, cZ, bS, cS, a, cp', hR', hS', rfl, -, -, hrow, hcols⟩; have hb6 := bd4.trans hb6'; clear hb6'; have y0 := below_cell hb6 (Nat.le_refl _) e0; have y1 := below_cell hb6 (Nat.le_refl _) e1; have y3 := below_cell hb6 (Nat.le_refl _) e3)))
            have hjn := doc_join (l := l) hNf hSt HLn.out.symm hR' hS'
            have hl0 : (l.take (sh 0).sizes.sum).length = (sh 0).sizes.sum := by rw [List.length_take]; omega
            rw [hjn, hl0] at hrow hcols
            clear kS hjn hR' hS' hBC y0 y1 y3 e0 e1 e3
            have hb25 : Below w2.heap.size w2 w5 := hbr.trans ((hb5.trans (hb6.mono hb5.size)).mono hbr.size)
            have hbw : Below h w w5 := hbel2.trans (hb25.mono (by omega))
            have ht5 := owns_keep' htold2 fun g hg => hb25.block g (htold2.lt g hg).2
            have hS5 := hSd2.below hb25 (Nat.le_refl _)
            have hB5 := (hBl.keep hb6 (Nat.le_refl _)).take HLn.out.symm
            have hcol : ∀ t, t < (sh 0).n → w5.cell? ⟨bS, t * 7 + 6, none⟩ = some (.slice (a t) (lenC (sh 0).k (sh 0).sizes.sum) (cp' t)) ∧ Lies w5 (.slice (a t) (lenC (sh 0).k (sh 0).sizes.sum) (cp' t)) (u8V (colB (sh 0).k (lenC (sh 0).k (sh 0).sizes.sum) (l.take (sh 0).sizes.sum) t)) := fun t ht => by
              refine ⟨?_, ?_⟩
              · rw [hrow.cellAt (t * 7 + 6) (by omega), shL_get _ _ _ ht (by omega)]
                rfl
              · rw [colB_V]
                exact lies_owns (hcols t ht)
            have hFl : ∀ t, t < i → ((sh t).col = colB (sh 0).k (lenC (sh 0).k (sh 0).sizes.sum) (l.take (sh 0).sizes.sum) (sh t).i ∨ ¬ FitsC i sh (l.take (sh 0).sizes.sum)) := fun t ht => by
              by_cases q : (sh t).col = colB (sh 0).k (lenC (sh 0).k (sh 0).sizes.sum) (l.take (sh 0).sizes.sum) (sh t).i
              · exact .inl q
              · exact .inr fun hF => q (hF.2 t ht)
            have hlc : ∀ t, t < i → (sh t).col.length ≤ 1048576 := fun t ht => by rw [hcl t ht]; omega
            clear hrow hcols hBl htold2 hbel2 hb25 hb5 hb6 hbr hb bd1 bd4 hSr hSd2 hc hc4 hbo4 hNf hSt hsq hgc hcl
            generalize hLL : lenC (sh 0).k (sh 0).sizes.sum = L at *
            have HLL : Hid (lenC (sh 0).k (sh 0).sizes.sum = L) := hLL
            clear hLL
            generalize l.take (sh 0).sizes.sum = l0 at *
            go_wp2
            have hz6 : h ≤ w5.heap.size := hh ▸ hbw.size
            generalize hz5 : w5.heap.size = h5 at *
            go_loopw [16] (fun vi wq => ∃ x : Nat, x ≤ i ∧ vi = .int .i64 (x : Int) ∧ Below h5 w5 wq ∧ AllC x L l0 sh) (fun vi _ => i - (intOf vi).toNat)
            case atStart => exact ⟨0, by omega, rfl, Below.refl _ _, fun t ht => absurd ht (by omega)⟩
            case round =>
              obtain ⟨x, hx, rfl, hb, hall⟩ := hrel
              by_cases hlt : x < i
              · have hlt' : (x : Int) < (i : Int) := by omega
                have hxn : (((sh x).i : Nat) : Int) < (((sh 0).n : Nat) : Int) := by have := hix x hlt; omega
                have hSx := hS5.below hb (Nat.le_of_eq hz5)
                obtain ⟨b', o', e', _, hcx⟩ := hSx.cells (by omega)
                cases e'
                have rx := hcx x hlt
                unfold shQ at rx
                obtain ⟨-, -, p2, -, -, -, p6⟩ := range7 rx
                obtain ⟨c1, c2⟩ := hcol _ (hix x hlt)
                replace c1 := below_cell hb (Nat.le_of_eq hz5) c1
                replace c2 := c2.belB hb (Nat.le_of_eq hz5)
                have bdx : Below wr.heap.size wr wr.drew := (Below.refl _ _).drew
                have kQ := refSame_any (vC x) _ (sh x).col _ wr.drew ((hSx.cl x hlt).below bdx) (c2.below bdx) (hlc x hlt)
                obtain ⟨pc, cc', ec⟩ := (hSx.cl x hlt).len
                rw [ec] at p6 kQ
                have hF := hFl x hlt
                clear rx hcx hSx ec c2
                have hq : ∀ w7, (∃ q, w7 = wr.drew.drewN q) → Below h5 w5 w7 := fun w7 ⟨q, e⟩ => by rw [e]; exact below_drewN hb.drew q
                by_cases heq : (sh x).col = colB (sh 0).k L l0 (sh x).i
                · rw [decide_eq_true heq] at kQ
                  have hnx : AllC (x + 1) L l0 sh := fun t ht => by
                    by_cases et : t = x
                    · rw [et]; exact heq
                    · exact hall t (by omega)
                  clear heq hF
                  generalize (u8V (sh x).col).length = lx at *
                  generalize (sh x).i = ix at *
                  go_wp2_with fail
                  go_region_held3 (fun w' => w'.cell? ⟨b, o + x * 7 + 2, none⟩ = some (.int .i64 (ix : Int)) ∧ w'.cell? ⟨b, o + x * 7 + 6, none⟩ = some (.slice pc lx cc') ∧ w'.cell? ⟨bS, ix * 7 + 6, none⟩ = some (.slice (a ix) L (cp' ix))) (go_keep)
                    ((first
                      | (go_at_call 17; (with_reducible refine kQ.mono ?_); rintro r w7 ⟨rfl, hw7⟩; have hb7 := hq w7 hw7; obtain ⟨y1, y2, y3⟩ : w7.cell? ⟨b, o + x * 7 + 2, none⟩ = some (.int .i64 (ix : Int)) ∧ w7.cell? ⟨b, o + x * 7 + 6, none⟩ = some (.slice pc lx cc') ∧ w7.cell? ⟨bS, ix * 7 + 6, none⟩ = some (.slice (a ix) L (cp' ix)) := (by obtain ⟨q, rfl⟩ := hw7; exact ⟨p2, p6, c1⟩); clear hw7)))
                  go_wp2
                  go_roundw
                  case rel => exact ⟨x + 1, by omega, by go_num, hb7, hnx⟩
                  case measure => simp [intOf]; omega
                · rw [decide_eq_false heq] at kQ
                  have hno := hF.resolve_left heq
                  clear heq hF
                  generalize (u8V (sh x).col).length = lx at *
                  generalize (sh x).i = ix at *
                  go_wp2_with fail
                  go_region_held3 (fun w' => w'.cell? ⟨b, o + x * 7 + 2, none⟩ = some (.int .i64 (ix : Int)) ∧ w'.cell? ⟨b, o + x * 7 + 6, none⟩ = some (.slice pc lx cc') ∧ w'.cell? ⟨bS, ix * 7 + 6, none⟩ = some (.slice (a ix) L (cp' ix))) (go_keep)
                    ((first
                      | (go_at_call 17; (with_reducible refine kQ.mono ?_); rintro r w7 ⟨rfl, hw7⟩; have hb7 := hq w7 hw7; obtain ⟨y1, y2, y3⟩ : w7.cell? ⟨b, o + x * 7 + 2, none⟩ = some (.int .i64 (ix : Int)) ∧ w7.cell? ⟨b, o + x * 7 + 6, none⟩ = some (.slice pc lx cc') ∧ w7.cell? ⟨bS, ix * 7 + 6, none⟩ = some (.slice (a ix) L (cp' ix)) := (by obtain ⟨q, rfl⟩ := hw7; exact ⟨p2, p6, c1⟩); clear hw7)))
                  go_wp2
                  go_ret3
                  exact ⟨by first | exact hbw.trans (hb7.mono hz6) | (rw [hh]; exact hbw.trans (hb7.mono hz6)), _, _, 13, rfl, by first | exact owns_keep' ht5 fun g hg => hb7.block g (hz5 ▸ (ht5.lt g hg).2) | (rw [hh]; exact owns_keep' ht5 fun g hg => hb7.block g (hz5 ▸ (ht5.lt g hg).2)), by rw [HM.out, HS.out]; exact .inr ⟨hE, l0, huq, .inr ⟨rfl, hno, rfl⟩⟩⟩
              · obtain rfl : x = i := by omega
                have hnl5 : ¬ ((x : Int) < (x : Int)) := by omega
                go_wp2
                go_ret3
                exact ⟨by first | exact hbw.trans (hb.mono hz6) | (rw [hh]; exact hbw.trans (hb.mono hz6)), _, _, 0, rfl, by first | exact owns_keep' ht5 fun g hg => hb.block g (hz5 ▸ (ht5.lt g hg).2) | (rw [hh]; exact owns_keep' ht5 fun g hg => hb.block g (hz5 ▸ (ht5.lt g hg).2)), by rw [HM.out, HS.out]; exact .inr ⟨hE, l0, huq, .inl ⟨rfl, ⟨hl0, fun t ht => by rw [HLL.out]; exact hall t ht⟩, _, f, hB5.keep hb (Nat.le_of_eq hz5)⟩⟩⟩
      · have hne : ((e : Int) == 0) = false := by simp; omega
        go_wp2
        go_ret3
        exact ⟨by rw [hh]; exact hbel2, _, _, e, rfl, by rw [hh]; exact htold2, by rw [HM.out, HS.out]; exact .inl ⟨by omega, hE, rfl⟩⟩
end Go.Proofs.YtlghjjennhpjeaaGreatDoor

/-
  The statement Decodes: its code cut; into decoded, into cairn.Decode, back.
-/
namespace Go.Proofs.YtlghjjennhpjeaaGreatDoor
open Go.RowKit Go.Deep Go.Lf Go.Conc Go.Hp

noncomputable def dzBody : Code := Tryz.f3.body.getD .skip
noncomputable def dz3 : Code := gSnd (gSnd (gSnd dzBody))
noncomputable def dz4 : Code := gSnd dz3
noncomputable def qs6 : {y : Array Oper // y = gOps (gFst dz3)} := ⟨_, by (simp only [dz3, dzBody, gFst, gSnd, gOps, Tryz.f3, Option.getD_some]; rfl)⟩
noncomputable def sP6 : Array Oper := qs6.1
theorem dz3_eq : dz3 = .seq (.region 6 sP6 false) dz4 := by kernel_rfl
theorem sP6_size : sP6.size = 9 := by kernel_rfl
theorem dz4_eq : dz4 = .seq (gFst dz4) .ret := by kernel_rfl
theorem sfdz : ∃ fn, Tryz.prog.funcs[3]? = some fn := ⟨_, Tryz.func3⟩
theorem dzBody_eq : dzBody = .seq (gFst dzBody) (.seq (gFst (gSnd dzBody)) (.seq (gFst (gSnd (gSnd dzBody))) dz3)) := by kernel_rfl
noncomputable def dyBody : Code := Tryz.f4.body.getD .skip
noncomputable def dy1 : Code := gSnd dyBody
noncomputable def dy2 : Code := gSnd dy1
noncomputable def qo0 : {y : Array Oper // y = gOps (gFst dyBody)} := ⟨_, by (simp only [dyBody, gFst, gOps, Tryz.f4, Option.getD_some]; rfl)⟩
noncomputable def oP0 : Array Oper := qo0.1
theorem oP0_size : oP0.size = 3 := by kernel_rfl
noncomputable def qo1 : {y : Array Oper // y = gOps (gFst dy1)} := ⟨_, by (simp only [dy1, dyBody, gFst, gSnd, gOps, Tryz.f4, Option.getD_some]; rfl)⟩
noncomputable def oP1 : Array Oper := qo1.1
theorem dy1_eq : dy1 = .seq (.region 1 oP1 false) dy2 := by kernel_rfl
theorem oP1_size : oP1.size = 9 := by kernel_rfl
theorem sfdy : ∃ fn, Tryz.prog.funcs[4]? = some fn := ⟨_, Tryz.func4⟩
theorem dyBody_eq : dyBody = .seq (.region 0 oP0 false) dy1 := by kernel_rfl

def Tsd (f : Nat → Value) (a3 a7 : Value) : Array Value := #[f 0, f 1, f 2, a3, f 4, f 5, f 6, a7, f 8, f 9, f 10, f 11, f 12, f 13, f 14, f 15, f 16, f 17, f 18, f 19, f 20, f 21, f 22, f 23, f 24, f 25, f 26, f 27, f 28]
theorem tsd_mk {T : Array Value} (h : T = #[T.getD 0 undef, T.getD 1 undef, T.getD 2 undef, T.getD 3 undef, T.getD 4 undef, T.getD 5 undef, T.getD 6 undef, T.getD 7 undef, T.getD 8 undef, T.getD 9 undef, T.getD 10 undef, T.getD 11 undef, T.getD 12 undef, T.getD 13 undef, T.getD 14 undef, T.getD 15 undef, T.getD 16 undef, T.getD 17 undef, T.getD 18 undef, T.getD 19 undef, T.getD 20 undef, T.getD 21 undef, T.getD 22 undef, T.getD 23 undef, T.getD 24 undef, T.getD 25 undef, T.getD 26 undef, T.getD 27 undef, T.getD 28 undef]) : T = Tsd (fun i => T.getD i undef) (T.getD 3 undef) (T.getD 7 undef) := h
def Tod (f : Nat → Value) (a0 a5 a6 a7 : Value) : Array Value := #[a0, f 1, f 2, f 3, f 4, a5, a6, a7, f 8, f 9, f 10, f 11, f 12, f 13, f 14, f 15, f 16, f 17, f 18, f 19, f 20, f 21, f 22, f 23, f 24, f 25, f 26, f 27, f 28, f 29, f 30, f 31, f 32, f 33, f 34, f 35, f 36, f 37, f 38, f 39, f 40, f 41, f 42, f 43, f 44, f 45, f 46, f 47, f 48, f 49, f 50, f 51, f 52, f 53, f 54, f 55, f 56, f 57, f 58, f 59]
theorem tod_mk {T : Array Value} (h : T = #[T.getD 0 undef, T.getD 1 undef, T.getD 2 undef, T.getD 3 undef, T.getD 4 undef, T.getD 5 undef, T.getD 6 undef, T.getD 7 undef, T.getD 8 undef, T.getD 9 undef, T.getD 10 undef, T.getD 11 undef, T.getD 12 undef, T.getD 13 undef, T.getD 14 undef, T.getD 15 undef, T.getD 16 undef, T.getD 17 undef, T.getD 18 undef, T.getD 19 undef, T.getD 20 undef, T.getD 21 undef, T.getD 22 undef, T.getD 23 undef, T.getD 24 undef, T.getD 25 undef, T.getD 26 undef, T.getD 27 undef, T.getD 28 undef, T.getD 29 undef, T.getD 30 undef, T.getD 31 undef, T.getD 32 undef, T.getD 33 undef, T.getD 34 undef, T.getD 35 undef, T.getD 36 undef, T.getD 37 undef, T.getD 38 undef, T.getD 39 undef, T.getD 40 undef, T.getD 41 undef, T.getD 42 undef, T.getD 43 undef, T.getD 44 undef, T.getD 45 undef, T.getD 46 undef, T.getD 47 undef, T.getD 48 undef, T.getD 49 undef, T.getD 50 undef, T.getD 51 undef, T.getD 52 undef, T.getD 53 undef, T.getD 54 undef, T.getD 55 undef, T.getD 56 undef, T.getD 57 undef, T.getD 58 undef, T.getD 59 undef]) : T = Tod (fun i => T.getD i undef) (T.getD 0 undef) (T.getD 5 undef) (T.getD 6 undef) (T.getD 7 undef) := h
/-- The slots of Decodes: the list made; behind decoded. Of decoded: ahead of Decode, behind it. -/
def TSd1 (vl : Value) (T : Array Value) : Prop := ∃ f : Nat → Value, T = Tsd f vl (f 7)
def TSd2 (y : Value) (T : Array Value) : Prop := ∃ f : Nat → Value, T = Tsd f (f 3) y
def TOd1 (vl : Value) (T : Array Value) : Prop := ∃ f : Nat → Value, T = Tod f vl (f 5) (f 6) (f 7)
def TOd2 (vl y1 y2 y3 : Value) (T : Array Value) : Prop := ∃ f : Nat → Value, T = Tod f vl y1 y2 y3
noncomputable def frSd (T : Array Value) : Frame := (base 3).at ⟨T, []⟩ (.inRegion sP6 [1, 2, 3, 4, 5, 6, 7, 8] :: [.code dz4])
noncomputable def frOd (T : Array Value) : Frame := (base 4).at ⟨T, []⟩ (.inRegion oP1 [1, 2, 3, 4, 5, 6, 7, 8] :: [.code dy2])

section
variable {X : Nat → Prop} {Y : Nat → Option Obj} {D : Nat → World → Array Event → Prop} {Stop : Goroutine → World → Prop} {w : World} {cs : List Frame} {T : Array Value} {vl y1 y2 y3 : Value}
set_option maxHeartbeats 8000000 in
set_option maxRecDepth 100000 in
theorem dz_into (hDk : Dok X D) (hT : TSd1 vl T)
    (hnext : ∀ T', TSd1 vl T' → ReaI Tryz.prog X Y D Stop 4 [frSd T'] [.code dyBody] ⟨#[vl] ++ Array.replicate 59 undef, []⟩ w) :
    ReaI Tryz.prog X Y D Stop 3 [] [.code dz3] ⟨T, []⟩ w := by
  obtain ⟨g, rfl⟩ := hT
  unfold Tsd
  rw [dz3_eq]
  refine reachI_split hDk rfl (reaI_region hDk ?_)
  rw [sP6_size]
  simp only [List.range, List.range.loop]
  refine reaR_op goodA hDk (vl) (by simp only [sP6, qs6]; rfl) rfl (by kernel_rfl) (fun z _ => by go_simp) ?_
  walk_nrm
  refine reaR_call hDk (by simp only [sP6, qs6]; rfl) rfl (by rfl) Tryz.func4 (by kernel_rfl) (c := dyBody) (by kernel_rfl) (vs := #[vl]) (n := 59) (by simp [Act.eval]) (by kernel_rfl) ?_
  unfold frSd at hnext
  exact hnext _ ⟨_, tsd_mk rfl⟩
set_option maxHeartbeats 8000000 in
set_option maxRecDepth 100000 in
theorem dy_into (hDk : Dok X D)
    (hnext : ∀ T', TOd1 vl T' → ReaI Tryz.prog X Y D Stop 5 (frOd T' :: cs) [.code dcBody] ⟨#[vl] ++ Array.replicate 55 undef, []⟩ w) :
    ReaI Tryz.prog X Y D Stop 4 cs [.code dyBody] ⟨#[vl] ++ Array.replicate 59 undef, []⟩ w := by
  rw [dyBody_eq]
  simp only [Array.replicate_succ, Array.replicate_zero, List.push_toArray, List.append_toArray, List.nil_append, List.cons_append]
  refine reaR_I.1 (reaR_split hDk (reaR_region hDk ?_))
  rw [oP0_size]
  simp only [List.range, List.range.loop]
  refine reaR_op goodA hDk (.slice none 0 0) (by simp only [oP0, qo0]; rfl) rfl (by kernel_rfl) (fun z _ => by go_simp) ?_
  walk_nrm
  refine reaR_op goodA hDk (.slice none 0 0) (by simp only [oP0, qo0]; rfl) rfl (by kernel_rfl) (fun z _ => by go_simp) ?_
  walk_nrm
  refine reaR_op goodA hDk (.bool false) (by simp only [oP0, qo0]; rfl) rfl (by kernel_rfl) (fun z _ => by go_simp) ?_
  walk_nrm
  refine reaR_endReg hDk ?_
  rw [dy1_eq]
  refine reaR_split hDk (reaR_region hDk ?_)
  rw [oP1_size]
  simp only [List.range, List.range.loop]
  refine reaR_op goodA hDk (vl) (by simp only [oP1, qo1]; rfl) rfl (by kernel_rfl) (fun z _ => by go_simp) ?_
  walk_nrm
  refine reaR_call hDk (by simp only [oP1, qo1]; rfl) rfl (by rfl) Tryz.func5 (by kernel_rfl) (c := dcBody) (by kernel_rfl) (vs := #[vl]) (n := 55) (by simp [Act.eval]) (by kernel_rfl) ?_
  unfold frOd at hnext
  exact hnext _ ⟨_, tod_mk rfl⟩
set_option maxHeartbeats 8000000 in
set_option maxRecDepth 100000 in
theorem dy_back (hDk : Dok X D) (hT : TOd1 vl T)
    (hnext : ∀ T', TOd2 vl y1 y2 y3 T' → ReaR Tryz.prog X Y D Stop none [] 4 cs [.code dy2] T' w) :
    ∀ z, SimT X Y z w → GoesI Tryz.prog D Stop (G ((frOd T).finish (.tuple #[y1, y2, y3])) cs) z := by
  rw [show frOd T = Dn none [] 4 T (.inRegion oP1 [1, 2, 3, 4, 5, 6, 7, 8] :: [.code dy2]) from rfl]
  rw [Dn_finish (by simp only [oP1, qo1]; rfl)]
  show ReaR _ _ _ _ _ _ _ _ _ _ _ _
  obtain ⟨g, rfl⟩ := hT
  unfold Tod
  walk_nrm
  refine reaR_op goodA hDk (.tuple #[y1, y2, y3]) (by simp only [oP1, qo1]; rfl) rfl (by kernel_rfl) (fun z _ => by go_simp) ?_
  walk_nrm
  refine reaR_op goodA hDk (y1) (by simp only [oP1, qo1]; rfl) rfl (by kernel_rfl) (fun z _ => by go_simp) ?_
  walk_nrm
  refine reaR_op goodA hDk (y2) (by simp only [oP1, qo1]; rfl) rfl (by kernel_rfl) (fun z _ => by go_simp) ?_
  walk_nrm
  refine reaR_op goodA hDk (y3) (by simp only [oP1, qo1]; rfl) rfl (by kernel_rfl) (fun z _ => by go_simp) ?_
  walk_nrm
  refine reaR_op goodA hDk (y1) (by simp only [oP1, qo1]; rfl) rfl (by kernel_rfl) (fun z _ => by go_simp) ?_
  walk_nrm
  refine reaR_op goodA hDk (y2) (by simp only [oP1, qo1]; rfl) rfl (by kernel_rfl) (fun z _ => by go_simp) ?_
  walk_nrm
  refine reaR_op goodA hDk (y3) (by simp only [oP1, qo1]; rfl) rfl (by kernel_rfl) (fun z _ => by go_simp) ?_
  walk_nrm
  refine reaR_endReg hDk ?_
  exact hnext _ ⟨_, tod_mk rfl⟩
set_option maxHeartbeats 8000000 in
set_option maxRecDepth 100000 in
theorem dz_back (hDk : Dok X D) (hT : TSd1 vl T)
    (hnext : ∀ T', TSd2 y3 T' → ReaR Tryz.prog X Y D Stop none [] 3 [] [.code dz4] T' w) :
    ∀ z, SimT X Y z w → GoesI Tryz.prog D Stop (G ((frSd T).finish (.tuple #[y1, y2, y3])) []) z := by
  rw [show frSd T = Dn none [] 3 T (.inRegion sP6 [1, 2, 3, 4, 5, 6, 7, 8] :: [.code dz4]) from rfl]
  rw [Dn_finish (by simp only [sP6, qs6]; rfl)]
  show ReaR _ _ _ _ _ _ _ _ _ _ _ _
  obtain ⟨g, rfl⟩ := hT
  unfold Tsd
  walk_nrm
  refine reaR_op goodA hDk (.tuple #[y1, y2, y3]) (by simp only [sP6, qs6]; rfl) rfl (by kernel_rfl) (fun z _ => by go_simp) ?_
  walk_nrm
  refine reaR_op goodA hDk (y1) (by simp only [sP6, qs6]; rfl) rfl (by kernel_rfl) (fun z _ => by go_simp) ?_
  walk_nrm
  refine reaR_op goodA hDk (y2) (by simp only [sP6, qs6]; rfl) rfl (by kernel_rfl) (fun z _ => by go_simp) ?_
  walk_nrm
  refine reaR_op goodA hDk (y3) (by simp only [sP6, qs6]; rfl) rfl (by kernel_rfl) (fun z _ => by go_simp) ?_
  walk_nrm
  refine reaR_op goodA hDk (y1) (by simp only [sP6, qs6]; rfl) rfl (by kernel_rfl) (fun z _ => by go_simp) ?_
  walk_nrm
  refine reaR_op goodA hDk (y2) (by simp only [sP6, qs6]; rfl) rfl (by kernel_rfl) (fun z _ => by go_simp) ?_
  walk_nrm
  refine reaR_op goodA hDk (y3) (by simp only [sP6, qs6]; rfl) rfl (by kernel_rfl) (fun z _ => by go_simp) ?_
  walk_nrm
  refine reaR_endReg hDk ?_
  exact hnext _ ⟨_, tsd_mk rfl⟩
end
end Go.Proofs.YtlghjjennhpjeaaGreatDoor

/-
  A word, made bytes.
-/
namespace Go.Proofs.YtlghjjennhpjeaaGreatDoor
open Go.RowKit Go.Deep

/-- '[]byte(s)': a new row that holds the string's bytes; nothing old has turned. -/
theorem bytes_made (s : ByteArray) (w : World) : ∃ cap w', (convert 9 24 (.string s)).run Tryz.prog w = .ok (.slice (some ⟨w.heap.size, 0, none⟩) s.data.toList.length cap) w' ∧ Below w.heap.size w w' ∧ w'.heap.size = w.heap.size + 1 ∧ s.data.toList.length ≤ cap ∧ Byt w' w.heap.size 0 s.data.toList := by
  have es : s.data.toList.length = s.size := Array.length_toList
  rw [es]
  refine ⟨_, _, run_bytes_of_string w _ _ 5 s Tryz.underlying9 Tryz.underlying24 Tryz.underlying5, ((Below.refl _ _).drew).alloc (Nat.le_refl _) _, ?_, grownCap_ge _ _ _ _, ?_⟩
  · simp
  · intro i hi
    rw [es] at hi
    have h := World.cell?_alloc_mark w.drew (bytesRow s (grownCap w s.size 0 5)) 5 ((bytesRow s (grownCap w s.size 0 5)).size, (bytesRow s (grownCap w s.size 0 5)).size + 1) i
    rw [Nat.zero_add]
    refine Eq.trans h ?_
    unfold bytesRow
    rw [Array.getElem?_append_left (by simpa using hi)]
    simp [bAt, hi]
end Go.Proofs.YtlghjjennhpjeaaGreatDoor

/-
  The statement Decodes up to its call of decoded: the texts made lists of bytes.
-/
namespace Go.Proofs.YtlghjjennhpjeaaGreatDoor
open Go.RowKit Go.Deep Go.Lf Go.Conc Go.Hp

/-- The list as far as it is made. -/
structure LJ (w : World) (bs : Nat → List UInt8) (j : Nat) (vi : Nat → Value) (vl : Value) (wr : World) : Prop where
  bel : Bel w.heap.size w wr
  row : wr.ownsRow w.heap.size 24 1 vl j ((List.range j).map vi)
  dat : ∀ i, i < j → ∃ g c, vi i = .slice (some ⟨g, 0, none⟩) (bs i).length c ∧ (bs i).length ≤ c ∧ g < wr.heap.size ∧ Byt wr g 0 (bs i) ∧ vl.ownBlock ≠ some g
theorem LJ.more {w : World} {bs : Nat → List UInt8} {j : Nat} {vi : Nat → Value} {vl v' : Value} {wr w1 w2 : World} {o : Obj} {c : Nat} (h : LJ w bs j vi vl wr) (hb : Below wr.heap.size wr w1) (hs : w1.heap.size = wr.heap.size + 1) (hc : (bs j).length ≤ c) (hy : Byt w1 wr.heap.size 0 (bs j)) (hg : (w1.alloc o).grownBy w2 vl.ownBlock)
    (ho : w2.ownsRow w.heap.size 24 1 v' (j + 1) ((List.range j).map vi ++ [.slice (some ⟨wr.heap.size, 0, none⟩) (bs j).length c])) (hk : v'.ownBlock = vl.ownBlock ∨ v'.ownBlock = some (w1.alloc o).heap.size) :
    LJ w bs (j + 1) (fun i => if i = j then .slice (some ⟨wr.heap.size, 0, none⟩) (bs j).length c else vi i) v' w2 := by
  have s1 := h.bel.size'
  have s3 : (w1.alloc o).heap.size = w1.heap.size + 1 := by simp
  have hz := hg.size
  have hlt : ∀ g, vl.ownBlock = some g → w.heap.size ≤ g ∧ g < wr.heap.size := fun g e => h.row.lt g e
  have old : ∀ b, b < w1.heap.size → vl.ownBlock ≠ some b → w2.heap[b]? = w1.heap[b]? := fun b h1 h2 => by
    rw [hg.block b (by omega) (fun e => h2 e.symm), Below.heap_alloc _ _ b h1]
  have byt : ∀ {g : Nat} {l : List UInt8}, g < w1.heap.size → vl.ownBlock ≠ some g → Byt w1 g 0 l → Byt w2 g 0 l := fun {g l} h1 h2 hB i hi => (World.cell?_of_block (a := ⟨g, 0 + i, none⟩) (old g h1 h2)).trans (hB i hi)
  have apt : ∀ g, g < w1.heap.size → vl.ownBlock ≠ some g → v'.ownBlock ≠ some g := fun g h1 h2 e => by
    rcases hk with hk | hk
    · exact h2 (hk.symm.trans e)
    · rw [hk] at e
      cases e
      omega
  refine ⟨h.bel.trans (Bel.of ((((Below.refl _ _).trans (hb.mono s1)).alloc (by omega) o).grown hg (by omega) fun k e => (hlt k e).1)) (Nat.le_refl _), ?_, fun i hi => ?_⟩
  · rw [List.range_succ, List.map_append, List.map_congr_left (g := vi) fun i hi => by rw [if_neg (by have := List.mem_range.1 hi; omega)]]
    simp only [List.map_cons, List.map_nil, if_true]
    exact ho
  · by_cases e : i = j
    · subst e
      have hn : vl.ownBlock ≠ some wr.heap.size := fun e => by have := hlt _ e; omega
      exact ⟨_, c, if_pos rfl, hc, by omega, byt (by omega) hn hy, apt _ (by omega) hn⟩
    · obtain ⟨g, c', h1, h2, h3, h4, h5⟩ := h.dat i (by omega)
      refine ⟨g, c', (if_neg e).trans h1, h2, by omega, byt (by omega) h5 fun t ht => ?_, apt g (by omega) h5⟩
      exact (hb.cell (p := ⟨g, 0 + t, none⟩) h3).trans (h4 t ht)
theorem LJ.slc {w : World} {bs : Nat → List UInt8} {n : Nat} {vi : Nat → Value} {vl : Value} {wr : World} (h : LJ w bs n vi vl wr) (hl : ∀ i, i < n → (bs i).length ≤ 1048576) : ∃ bi cap, vl = .slice bi n cap ∧ SlC wr bi n bs vi := by
  obtain ⟨bi, cap, e⟩ := owns_form h.row
  subst e
  have hL := lies_owns h.row
  refine ⟨bi, cap, rfl, ⟨fun hn => ?_, fun i hi => ?_⟩, fun i hi => ?_⟩
  · obtain ⟨g, c, e, _, _⟩ := h.row.form hn
    cases e
    refine ⟨g, 0, rfl, fun i hi => ?_⟩
    obtain ⟨b', o', e', hc⟩ := hL.get (show ((List.range n).map vi)[i]? = some (vi i) by simp [hi])
    cases e'
    exact hc
  · obtain ⟨g, c, e, h2, h3, h4, _⟩ := h.dat i hi
    refine ⟨⟨some ⟨g, 0, none⟩, c, by rw [e, u8V_length], by rw [u8V_length]; exact h2, fun j u hj => ⟨g, 0, rfl, ?_⟩⟩, .inr ⟨g, 0, c, e, h2⟩, by have := hl i hi; omega⟩
    obtain ⟨h5, rfl⟩ := u8V_at hj
    exact h4 j h5
  · obtain ⟨g, c, e, h2, h3, _⟩ := h.dat i hi
    exact ⟨g, c, e, h2, h3, hl i hi⟩
section
variable {X : Nat → Prop} {Y : Nat → Option Obj} {D : Nat → World → Array Event → Prop} {Stop : Goroutine → World → Prop} {w : World}
set_option maxHeartbeats 8000000 in
set_option maxRecDepth 100000 in
theorem dz_first (hDk : Dok X D) {bo : Option Addr} {cap : Nat} {bl : List (List UInt8)} (hL : Lies w (.slice bo bl.length cap) (nameV bl)) (hn : bl.length ≤ 1048576)
    (hnext : ∀ (T : Array Value) (vl : Value) (vi : Nat → Value) (w' : World), TSd1 vl T → LJ w (fun i => bl.getD i []) bl.length vi vl w' → ReaI Tryz.prog X Y D Stop 3 [] [.code dz3] ⟨T, []⟩ w') :
    ReaI Tryz.prog X Y D Stop 3 [] [.code dzBody] ⟨#[.slice bo bl.length cap] ++ Array.replicate 28 undef, []⟩ w := by
  rw [dzBody_eq]
  simp only [Array.replicate_succ, Array.replicate_zero, List.push_toArray, List.append_toArray, List.nil_append, List.cons_append]
  refine reachI_go goodA hDk (by kernel_rfl) rfl sfdz fun R hR τ d' => ?_
  have bel : Bel w.heap.size w { w with tape := τ, drawn := d' } := (Bel.refl _ w).tp τ d'
  generalize ({ w with tape := τ, drawn := d' } : World) = wA at bel ⊢
  simp only [gFst, dzBody, Tryz.f3, Option.getD_some]
  go_wp2
  refine reachI_go goodA hDk (by kernel_rfl) rfl sfdz fun R hR τ d' => ?_
  replace bel := bel.tp τ d'
  generalize ({ wA with tape := τ, drawn := d' } : World) = wB at bel ⊢
  simp only [gFst, gSnd, dzBody, Tryz.f3, Option.getD_some]
  go_wp2
  refine reachI_go goodA hDk (by kernel_rfl) rfl sfdz fun R hR τ d' => ?_
  replace bel := bel.tp τ d'
  generalize ({ wB with tape := τ, drawn := d' } : World) = wC at bel ⊢
  simp only [gFst, gSnd, dzBody, Tryz.f3, Option.getD_some]
  have J0 : LJ w (fun i => bl.getD i []) 0 (fun _ => undef) (.slice none 0 0) wC := ⟨bel, World.ownsRow_nil _ _ _ _, fun i hi => absurd hi (by omega)⟩
  obtain ⟨i0, hi0, hz0, hz1, hz2⟩ := info_parts Tryz.infoCol
  generalize hN : bl.length = N at *
  have HN : Hid (bl.length = N) := hN
  clear hN
  go_wp2
  go_loopw [3, 4] (fun vl vj wr => ∃ (j : Nat) (vi : Nat → Value), j ≤ N ∧ vj = .int .i64 (j : Int) ∧ LJ w (fun i => bl.getD i []) j vi vl wr) (fun _ vj _ => N - (intOf vj).toNat)
  case atStart => exact ⟨0, _, by omega, rfl, J0⟩
  case round =>
    clear J0 bel
    obtain ⟨j, vi, hj, rfl, hI⟩ := hrel
    have hsz := hI.bel.size'
    by_cases hlt : j < N
    · have hlt' : (j : Int) < (N : Int) := by omega
      obtain ⟨b, o, rfl, c1⟩ := hL.get (nameV_at (l := bl) (j := j) (by rw [HN.out]; exact hlt))
      replace c1 := (bel_sub hI.bel).cell c1
      obtain ⟨cp, w1, hrun, hb1, hs1, hc1, hy1⟩ := bytes_made ⟨(bl.getD j []).toArray⟩ wr
      simp only at hrun hc1 hy1
      have hm := fun v' w2 => hI.more (v' := v') (w2 := w2) (o := .cells #[.slice (some ⟨wr.heap.size, 0, none⟩) (bl.getD j []).length cp] 24) hb1 hs1 hc1 hy1
      have hr1 := owns_keep' hI.row fun g hg => hb1.block g (hI.row.lt g hg).2
      obtain ⟨bq, cq, rfl⟩ := owns_form hI.row
      have hsz1 : w.heap.size ≤ w1.heap.size := by omega
      clear hb1 hc1 hy1 hs1
      generalize bl.getD j [] = bj at c1 hrun hm
      generalize bj.length = lj at hrun hm
      generalize wr.heap.size = p9 at *
      go_wp2_with (at_builtin; refine wpList_append_own_at _ rfl _ _ 23 rfl w.heap.size 24 i0 (.slice none 0 0) 1 24 Tryz.underlying23 hi0 hz0 hz1 hz2 rfl (by decide) _ _ _ rfl (hr1.alloc _) ⟨w1.heap.size, 0, none⟩ 1 1 [.slice (some ⟨p9, 0, none⟩) lj cp] rfl rfl (cell_one_newD _ _ _) (one_colD _ _ _) (by unfold maxLen; omega) (by omega) (by simp; omega) ?_; intro v' w2 ho hgrow _ hblk; have hJ := hm v' w2 hgrow ho hblk)
      exact ⟨⟨j + 1, _, by omega, by simp, hJ⟩, by simp [intOf]; omega⟩
    · obtain rfl : j = N := by omega
      have hnl : ¬ ((j : Int) < (j : Int)) := by omega
      go_wp2
      exact hnext _ _ vi wr ⟨_, tsd_mk rfl⟩ hI
end
end Go.Proofs.YtlghjjennhpjeaaGreatDoor

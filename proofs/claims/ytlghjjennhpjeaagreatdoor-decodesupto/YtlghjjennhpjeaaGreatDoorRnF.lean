/-
  The document's Rebuilt: what stands in memory while the columns are worked out.
-/
import Derived.Test.YtlghjjennhpjeaaGreatDoorRnD
import Derived.Maps.AppendAt
import Derived.BigRegion
import Derived.Deep.RegionLaw
namespace Go.Proofs.YtlghjjennhpjeaaGreatDoor
open Go.RowKit Go.Deep

theorem bvL_length (n : Nat) (r : Nat → F) : (bvL n r).length = n := by simp [bvL]
theorem bvL_snoc (n : Nat) (r : Nat → F) : bvL (n + 1) r = bvL n r ++ [.int .u8 (((r n).val : Nat) : Int)] := by simp [bvL, List.range_succ]
theorem bvL_congr {n : Nat} {r r' : Nat → F} (h : ∀ j, j < n → r j = r' j) : bvL n r = bvL n r' := List.map_congr_left fun j hj => by rw [h j (by simpa using hj)]

theorem step_append_atR {P : Program} {ops : Array Oper} {o : Oper} {a : Act} {w : World} {K : Act → World → Prop} {Q : Exit → Act → World → Prop} {E : Prop}
    (hg : o.guard = none) (s x : Operand) (t : TypeId) (hop : o.op = Op.call { callee := Callee.builtin Builtin.append, args := #[s, x], argTypes := #[t, t] })
    (base : Nat) (e : TypeId) (i : TypeInfo) (z : Value) (size bytes : Nat) (h1 : P.underlying t = some (.slice e)) (h2 : P.info? e = some i) (h3 : i.zero = some z) (h4 : i.size = size) (h5 : i.bytes = bytes) (h6 : z.cells.size = size) (h7 : 0 < size)
    (v : Value) (n : Nat) (xs : List Value) (hs : a.eval s = v) (hown : w.ownsRow base e size v n xs)
    (ad : Addr) (m c : Nat) (news : List Value) (hx : a.eval x = .slice (some ad) m c) (hn : news.length = m * size) (hc : ∀ j u, news[j]? = some u → w.cell? (ad.add j) = some u) (h1c : ∀ u ∈ news, u.oneCell' = true)
    (b1 : n + m ≤ maxLen) (b2 : (n + m) * bytes ≤ 140737488355328) (hbase : base ≤ w.heap.size)
    (hK : ∀ v' w', w'.ownsRow base e size v' (n + m) (xs ++ news) → w.grownBy w' v.ownBlock → (v'.ownBlock = v.ownBlock ∨ v'.ownBlock = some w.heap.size) → K (a.put o.dst v') w') :
    if Region.wanted o (yielded ops a.tmps) = true then Oper.wp P o a w K Q else E := by
  have hw : Region.wanted o (yielded ops a.tmps) = true := by simp [Region.wanted, hg]
  rw [if_pos hw]
  obtain ⟨v', w', hr, r1, r2, _, r4⟩ := run_append_own_at (P := P) w base t o.type e i z size bytes h1 h2 h3 h4 h5 h6 h7 v n xs hown ad m c news hn hc h1c b1 b2 hbase
  unfold Oper.wp
  simp [execOp, hop, resolve, invoke, builtin, hs, hx, hr, Result.andThen]
  exact hK v' w' r1 r2 r4
theorem owns_sliceR {w : World} {B e s n : Nat} {v : Value} {xs : List Value} (h : w.ownsRow B e s v n xs) : ∃ bo cap, v = .slice bo n cap := by
  rcases h.2 with ⟨rfl, rfl⟩ | ⟨g, cap, _, rfl, _⟩
  · exact ⟨_, _, rfl⟩
  · exact ⟨_, _, rfl⟩
theorem stL_get : ∀ (l : List F.St) (u : Nat) (s : F.St), l[u]? = some s → ∀ p, p < 4 → (stL l)[u * 4 + p]? = (stC s)[p]?
  | [], u, s, h, _, _ => by simp at h
  | x :: l, 0, s, h, p, hp => by
    simp at h
    subst h
    have e : stL (x :: l) = stC x ++ stL l := by simp [stL]
    rw [e, Nat.zero_mul, Nat.zero_add, List.getElem?_append_left (by simp [stC]; omega)]
  | x :: l, u + 1, s, h, p, hp => by
    have e : stL (x :: l) = stC x ++ stL l := by simp [stL]
    have hc : (stC x).length = 4 := rfl
    rw [e, List.getElem?_append_right (by rw [hc]; omega), hc, show (u + 1) * 4 + p - 4 = u * 4 + p by omega]
    exact stL_get l u s (by simpa using h) p hp
theorem run_take {l : List F.St} {u : Nat} {s : F.St} (h : l[u]? = some s) (y : Nat → F) : F.run (l.take (u + 1)) y = F.ap s (F.run (l.take u) y) := by
  rw [List.take_add_one, h]
  exact F.run_snoc s _ _
/-- The steps; the columns as far as they are made. -/
structure XB (B k go : Nat) (vs : Value) (l : List F.St) (n : Nat → Nat) (ov : Nat → Value) (xs : Nat → Nat → F) (w0 w : World) : Prop where
  st : w.ownsRow B 94 4 vs l.length (stL l)
  row : w.rowIs go 24 k ov
  own : ∀ j, j < k → w.ownsRow B 5 1 (ov j) (n j) (bvL (n j) (xs j))
  sep : ∀ a b, a < k → b < k → a ≠ b → ∀ g, (ov a).ownBlock = some g → (ov b).ownBlock ≠ some g
  bel : Below B w0 w
  gb : B ≤ go

section
variable {B k go : Nat} {vs : Value} {l : List F.St} {n : Nat → Nat} {ov : Nat → Value} {xs : Nat → Nat → F} {w0 w w' : World}
theorem XB.keep (h : XB B k go vs l n ov xs w0 w) (hB : B ≤ w.heap.size) (hb : Below w.heap.size w w') : XB B k go vs l n ov xs w0 w' :=
  ⟨owns_keepR' h.st fun g hg => hb.block g (h.st.lt g hg).2, h.row.of_block (hb.block go h.row.lt), fun j hj => owns_keepR' (h.own j hj) fun g hg => hb.block g ((h.own j hj).lt g hg).2, h.sep, h.bel.trans (hb.mono hB), h.gb⟩
theorem XB.size (h : XB B k go vs l n ov xs w0 w) : B ≤ w.heap.size := Nat.le_trans h.gb (Nat.le_of_lt h.row.lt)
theorem XB.same (h : XB B k go vs l n ov xs w0 w) (e : w'.heap = w.heap) (e1 : w'.os = w.os) (e2 : w'.tape = w.tape) (e3 : w'.output = w.output) : XB B k go vs l n ov xs w0 w' :=
  h.keep h.size ⟨e1, e2, e3, by rw [e]; exact Nat.le_refl _, fun b _ => by rw [e]⟩
theorem XB.congr {n' : Nat → Nat} (h : XB B k go vs l n ov xs w0 w) (e : ∀ j, j < k → n j = n' j) : XB B k go vs l n' ov xs w0 w :=
  ⟨h.st, h.row, fun j hj => by rw [← e j hj]; exact h.own j hj, h.sep, h.bel, h.gb⟩
/-- One byte more in column i; the bytes of the place (v) stand. -/
theorem XB.push {wa w1 : World} {i gv cv : Nat} {f : Nat → F} {v' : Value} (h : XB B k go vs l n ov xs w0 w) (hi : i < k) (hv : w.ownsRow B 5 1 (.slice (some ⟨gv, 0, none⟩) k cv) k (bvL k f)) (hs : ∀ j, j < k → (ov j).ownBlock ≠ some gv)
    (ha : Below w.heap.size w wa) (hg : wa.grownBy w1 (ov i).ownBlock) (ho : w1.ownsRow B 5 1 v' (n i + 1) (bvL (n i) (xs i) ++ [.int .u8 (((xs i (n i)).val : Nat) : Int)])) (hw : v'.ownBlock = (ov i).ownBlock ∨ v'.ownBlock = some wa.heap.size) :
    XB B k go vs l (fun j => if j = i then n i + 1 else n j) (fun j => if j = i then v' else ov j) xs w0 (w1.setCell ⟨go, i, none⟩ v') ∧ (w1.setCell ⟨go, i, none⟩ v').ownsRow B 5 1 (.slice (some ⟨gv, 0, none⟩) k cv) k (bvL k f) ∧ (∀ j, j < k → (if j = i then v' else ov j).ownBlock ≠ some gv) ∧ w1.cell? ⟨go, i, none⟩ = some (ov i) ∧ w1.frozen? ⟨go, i, none⟩ = false := by
  have hsa := ha.size
  have hgs := hg.size
  obtain ⟨crow, erow, _⟩ := h.row
  have gne : ∀ {t s m : Nat} {v : Value} {ys : List Value}, t ≠ 24 → w.ownsRow B t s v m ys → v.ownBlock ≠ some go := fun ht hx e => by
    obtain ⟨c1, f1, e1⟩ := Lib.ownsRow_kind hx go e
    rw [e1] at erow
    cases erow
    exact ht rfl
  have old : ∀ x, x < w.heap.size → (ov i).ownBlock ≠ some x → w1.heap[x]? = w.heap[x]? := fun x hx hne => by
    rw [hg.block x (by omega) (fun e => hne e.symm), ha.block x hx]
  have old2 : ∀ x, x < w.heap.size → (ov i).ownBlock ≠ some x → x ≠ go → (w1.setCell ⟨go, i, none⟩ v').heap[x]? = w.heap[x]? := fun x hx hne hgo => by
    rw [Below.heap_setCell _ _ _ _ hgo]
    exact old x hx hne
  have r1 : w1.rowIs go 24 k ov := h.row.of_block (old go h.row.lt (gne (by decide) (h.own i hi)))
  have vne : ∀ j, j < k → j ≠ i → ∀ g, (ov j).ownBlock = some g → v'.ownBlock ≠ some g := fun j hj hji g hg' e => by
    rcases hw with h1 | h1
    · exact h.sep i j hi hj (Ne.symm hji) g (h1 ▸ e) hg'
    · rw [h1] at e
      cases e
      have := ((h.own j hj).lt _ hg').2
      omega
  refine ⟨⟨?_, ?_, fun j hj => ?_, fun a b ha' hb' hab g hga hgb => ?_, ?_, h.gb⟩, ?_, fun j hj e => ?_, r1.cell hi, r1.frozen i⟩
  · exact owns_keepR' h.st fun x hx => old2 x (h.st.lt x hx).2 (kind_neR h.st (h.own i hi) (by decide) hx) (fun e => gne (by decide) h.st (e ▸ hx))
  · exact r1.set i v'
  · by_cases e : j = i
    · subst e
      simp only [if_true]
      rw [bvL_snoc]
      refine owns_keepR' ho fun x hx => Below.heap_setCell _ _ _ _ fun e => ?_
      rw [show x = go from e] at hx
      rcases hw with h1 | h1
      · exact gne (by decide) (h.own j hi) (h1 ▸ hx)
      · rw [h1] at hx
        have : wa.heap.size = go := Option.some.inj hx
        have := h.row.lt
        omega
    · simp only [if_neg e]
      exact owns_keepR' (h.own j hj) fun x hx => old2 x ((h.own j hj).lt x hx).2 (fun e2 => h.sep i j hi hj (Ne.symm e) x e2 hx) (fun e2 => gne (by decide) (h.own j hj) (e2 ▸ hx))
  · by_cases e1 : a = i
    · rw [if_pos e1] at hga
      rw [if_neg (by omega)] at hgb
      exact vne b hb' (by omega) g hgb hga
    · rw [if_neg e1] at hga
      by_cases e2 : b = i
      · rw [if_pos e2] at hgb
        exact vne a ha' e1 g hga hgb
      · rw [if_neg e2] at hgb
        exact h.sep a b ha' hb' hab g hga hgb
  · exact ((h.bel.trans (ha.mono h.size)).grown hg (by have := h.size; omega) (fun x hx => ((h.own i hi).lt x hx).1)).setCell h.gb _
  · exact owns_keepR' hv fun x hx => old2 x (hv.lt x hx).2 (fun e => by cases hx; exact hs i hi e) (fun e => gne (by decide) hv (e ▸ hx))
  · by_cases e1 : j = i
    · rw [if_pos e1] at e
      rcases hw with h1 | h1
      · exact hs i hi (h1 ▸ e)
      · rw [h1] at e
        have : wa.heap.size = gv := Option.some.inj e
        have := (hv.lt gv rfl).2
        omega
    · rw [if_neg e1] at e
      exact hs j hj e
end
end Go.Proofs.YtlghjjennhpjeaaGreatDoor

/-
  The document's Rebuilt: run alone.
-/
namespace Go.Proofs.YtlghjjennhpjeaaGreatDoor
open Go.RowKit Go.Deep

def RebPost (k L : Nat) (xs : Nat → Nat → F) (w : World) (e : Ending) (w' : World) : Prop := ∃ go ov, e = .returned (.slice (some ⟨go, 0, none⟩) k k) ∧ w'.rowIs go 24 k ov ∧ (∀ j, j < k → w'.ownsRow w.heap.size 5 1 (ov j) L (bvL L (xs j))) ∧ Below w.heap.size w w'
def RowI (B k : Nat) (M : Nat → Nat → F) (w : World) (vm vi : Value) (wr : World) : Prop := ∃ i bl cp, i ≤ k ∧ vi = .int .i64 ((i : Nat) : Int) ∧ RB B k i bl cp M vm w wr
def XI (B k L go : Nat) (vs : Value) (l : List F.St) (xs : Nat → Nat → F) (w : World) (vx : Value) (wr : World) : Prop := ∃ x ov, x ≤ L ∧ vx = .int .i64 ((x : Nat) : Int) ∧ XB B k go vs l (fun _ => x) ov xs w wr
def OutJ (B k go : Nat) (vs : Value) (l : List F.St) (x : Nat) (xs : Nat → Nat → F) (gv cv : Nat) (w : World) (vi : Value) (wr : World) : Prop := ∃ j oj, j ≤ k ∧ vi = .int .i64 ((j : Nat) : Int) ∧ XB B k go vs l (fun a => if a < j then x + 1 else x) oj xs w wr ∧ wr.ownsRow B 5 1 (.slice (some ⟨gv, 0, none⟩) k cv) k (bvL k (fun a => xs a x)) ∧ ∀ a, a < k → (oj a).ownBlock ≠ some gv
theorem one_slice (a : Option Addr) (n c : Nat) : ∀ u ∈ [Value.slice a n c], u.oneCell' = true := by intro u hu; simp at hu; subst hu; rfl

set_option maxHeartbeats 16000000 in
set_option maxRecDepth 100000 in
theorem rebuilt_any (k n bc oc cap : Nat) (q : CL) (bd od : Nat → Nat) (yv : Nat → Nat → Nat) (xs : Nat → Nat → F) (w : World) (hk0 : 0 < k) (hk : k ≤ 128) (hkn : k ≤ n) (hn : n ≤ 9223372036854775807) (hL : q.L ≤ 140737488355328) (hx : ∀ i, i < k → q.ix i < 128) (hC : CO w bc oc n q) (hD : DO w k q bd od yv)
    (hI : F.Inj k (mF k q.ix)) (hsol : ∀ m, m < q.L → ∀ i, i < k → F.dot k (mF k q.ix i) (fun j => xs j m) = Fin.ofNat 256 (yv i m)) :
    Calls Tryz.prog 15 #[.int .i64 ((k : Nat) : Int), .slice (some ⟨bc, oc, none⟩) n cap] w fun e w' => RebPost k q.L xs w e w' := by
  obtain ⟨i0, hi0, hz0, hz1, hz2⟩ := info_parts Tryz.infoR
  obtain ⟨i5, hi5, hy0, hy1, hy2⟩ := info_parts Tryz.infoB
  have hkn' : (k : Int) ≤ (n : Int) := by omega
  go_enter Tryz.func15, Tryz.ntmps15
  go_wp2
  go_loopw [5, 6, 7] (fun vm vi _ wr => RowI w.heap.size k (mF k q.ix) w vm vi wr) (fun _ vi _ _ => k - (intOf vi).toNat)
  case atStart => exact ⟨0, fun _ => 0, fun _ => 0, by omega, rfl, World.ownsRow_nil _ _ _ _, fun _ h => absurd h (by omega), fun _ _ h => absurd h (by omega), Below.refl _ _⟩
  case round =>
    obtain ⟨i, bl, cp, hik, rfl, hR⟩ := hrel
    have hsz := hR.bel.size
    by_cases hlt : i < k
    · have hlt' : (i : Int) < (k : Int) := by omega
      have hin : (i : Int) < (n : Int) := by omega
      have g0 := (hC.below hR.bel (Nat.le_refl _)).c0 i (by omega)
      have cr := fun u => rrow_any k (q.ix i) hk (hx i hlt) u
      generalize hxi : q.ix i = xi at *
      go_wp2_with (first
        | (go_at_call 36; (with_reducible refine (cr _).mono ?_); rintro e wa ⟨v, rfl, hr, ha⟩; obtain ⟨g, c, rfl, _, _⟩ := hr.form hk0; have hh := owns_keepR' hR.head (fun x hx => ha.block x (hR.head.lt x hx).2); have hsa := ha.size)
        | (at_builtin; refine wpList_append_own _ rfl _ _ 23 rfl w.heap.size 24 i0 (.slice none 0 0) 1 24 Tryz.underlying23 hi0 hz0 hz1 hz2 rfl (by decide) _ _ _ rfl (hh.alloc _) ⟨wa.heap.size, 0, none⟩ 1 1 [.slice (some ⟨g, 0, none⟩) k c] rfl rfl (cell_one_new _ _ _) (one_slice _ _ _) (by unfold maxLen; omega) (by omega) (by simp; omega) ?_; intro v' w1 hown' hgrow _))
      rw [bvL_row] at hr
      have hM : (fun j => Fin.ofNat 256 (rowV k xi j)) = mF k q.ix i := by funext j; rw [← hxi]; rfl
      rw [hM] at hr
      have hR2 := hR.more hsz ha hr ((Below.refl wa.heap.size wa).alloc (Nat.le_refl _) _) hgrow hown'
      clear hown' hgrow hR hr
      go_wp2
      go_roundw
      case rel => exact ⟨i + 1, _, _, by omega, by go_num, hR2⟩
      case measure => simp [intOf]; omega
    · obtain rfl : i = k := by omega
      have hnl : ¬ ((i : Int) < (i : Int)) := by omega
      obtain ⟨g, hc, rfl, _, _⟩ := hR.head.form hk0
      have cs := solve_any w.heap.size i g hc bl cp (mF i q.ix) wr hk hsz hR.ss hI
      have hb1 := hR.bel
      clear hR
      go_wp2_with (first | (go_at_call 37; (with_reducible refine cs.mono ?_); rintro e w2 ⟨vs, m, l, rfl, hst, hRs, hU, hb2, hll⟩; have mk := make_lists i (by omega) w2))
      have hb3 := hb1.trans hb2
      have hbd : i * (i + 2) ≤ 128 * 130 := Nat.mul_le_mul (by omega) (by omega)
      have hX0 : XB w.heap.size i w2.heap.size vs l (fun _ => 0) (fun _ => .slice none 0 0) xs w (w2.alloc (.cells (madeCells #[.slice none 0 0] i) 24)) :=
        ⟨hst.alloc _, World.rowIs_made w2 (.slice none 0 0) i 24, fun j _ => World.ownsRow_nil _ _ _ _, fun a b _ _ _ g hg => by simp [Value.ownBlock] at hg, hb3.alloc hb3.size _, hb3.size⟩
      clear hst mk cs hb2 hb1
      generalize (w2.alloc (.cells (madeCells #[.slice none 0 0] i) 24)) = w3 at *
      generalize w2.heap.size = go at *
      go_wp2
      go_loopw [10, 11, 12, 13, 14, 15] (fun vx _ _ _ _ _ wr => XI w.heap.size i q.L go vs l xs w vx wr) (fun vx _ _ _ _ _ _ => q.L - (intOf vx).toNat)
      case atStart => exact ⟨0, _, by omega, rfl, hX0⟩
      case round =>
        clear hX0
        obtain ⟨x, ov, hxL, rfl, hX⟩ := hrel
        have c00 := (hC.below hX.bel (Nat.le_refl _)).c1 0 (by omega)
        simp only [Nat.zero_mul, Nat.add_zero] at c00
        have hn0 : (0 : Int) < (n : Int) := by omega
        by_cases hlt2 : x < q.L
        · have hlt2' : (x : Int) < (q.L : Int) := by omega
          obtain ⟨wx, ewx⟩ : ∃ u : World, u = wr := ⟨wr, rfl⟩
          subst ewx
          have hBx := hX.size
          have hCx := hC.below hX.bel (Nat.le_refl _)
          have hDx := hD.below hX.bel (Nat.le_refl _)
          go_wp2
          go_loopw [11, 12] (fun vv vi wq => ∃ t : Nat, t ≤ i ∧ vi = .int .i64 ((t : Nat) : Int) ∧ wq.ownsRow wx.heap.size 5 1 vv t (bvL t (fun j => Fin.ofNat 256 (yv j x))) ∧ Below wx.heap.size wx wq) (fun _ vi _ => i - (intOf vi).toNat)
          case atStart => exact ⟨0, by omega, rfl, World.ownsRow_nil _ _ _ _, Below.refl _ _⟩
          case round =>
            obtain ⟨t, hti, rfl, hv, hbv⟩ := hrel
            have hsv := hbv.size
            by_cases htk : t < i
            · have htk' : (t : Int) < (i : Int) := by omega
              have htn : (t : Int) < (n : Int) := by omega
              have g1 := (hCx.below hbv (Nat.le_refl _)).c1 t (by omega)
              have g2 := (hDx.below hbv (Nat.le_refl _)).y t x htk hlt2
              rw [hD.here t htk (by omega)] at g1
              have ey : yv t x = (Fin.ofNat 256 (yv t x) : F).val := (Nat.mod_eq_of_lt (hD.yl t x)).symm
              rw [ey] at g2
              clear ey c00
              go_wp2_with (at_builtin; refine wpList_append_own _ rfl _ _ 24 rfl wx.heap.size 5 i5 (.int .u8 0) 1 1 Tryz.underlying24 hi5 hy0 hy1 hy2 rfl (by decide) _ _ _ rfl (hv.alloc _) ⟨wr.heap.size, 0, none⟩ 1 1 [.int .u8 (((Fin.ofNat 256 (yv t x) : F).val : Nat) : Int)] rfl rfl (cell_one_new _ _ _) (one_u8 _) (by unfold maxLen; omega) (by omega) (by simp; omega) ?_; intro v' w1 hown' hgrow _)
              have hv2 : w1.ownsRow wx.heap.size 5 1 v' (t + 1) (bvL (t + 1) (fun j => Fin.ofNat 256 (yv j x))) := by rw [bvL_snoc]; exact hown'
              have hbv2 : Below wx.heap.size wx w1 := (hbv.alloc hsv _).grown hgrow (by simp; omega) (fun b hb => (hv.lt b hb).1)
              clear hown' hgrow hv hbv
              go_wp2
              go_roundw
              case rel => exact ⟨t + 1, by omega, by go_num, hv2, hbv2⟩
              case measure => simp [intOf]; omega
            · obtain rfl : t = i := by omega
              have hnl2 : ¬ ((t : Int) < (t : Int)) := by omega
              obtain ⟨gv, cv, rfl, hgv, _⟩ := hv.form hk0
              obtain ⟨bs, cps, rfl⟩ := owns_sliceR hX.st
              go_wp2
              go_loopw [13, 14] (fun vi _ wq => ∃ u : Nat, u ≤ l.length ∧ vi = .int .i64 ((u : Nat) : Int) ∧ wq.ownsRow wx.heap.size 5 1 (.slice (some ⟨gv, 0, none⟩) t cv) t (bvL t (F.run (l.take u) (fun j => Fin.ofNat 256 (yv j x)))) ∧ Below wx.heap.size wx wq) (fun vi _ _ => l.length - (intOf vi).toNat)
              case atStart => exact ⟨0, by omega, rfl, by rw [List.take_zero]; exact hv, hbv⟩
              case round =>
                clear hv hbv
                obtain ⟨u, hul, rfl, hv, hbv⟩ := hrel
                have hsv := hbv.size
                by_cases hut : u < l.length
                · have hut' : (u : Int) < (l.length : Int) := by omega
                  obtain ⟨s, hs⟩ : ∃ s, l[u]? = some s := ⟨_, List.getElem?_eq_getElem hut⟩
                  obtain ⟨gs, cgs, egs, _, hgs⟩ := hX.st.form (by omega)
                  cases egs
                  have cellS : ∀ p, p < 4 → wr.cell? ⟨gs, u * 4 + p, none⟩ = (stC s)[p]? := fun p hp => by
                    rw [hbv.cell (p := ⟨gs, u * 4 + p, none⟩) hgs, hX.st.cellAt (u * 4 + p) (by omega)]
                    exact stL_get l u s hs p hp
                  have e0 := cellS 0 (by omega)
                  have e1 := cellS 1 (by omega)
                  have e2 := cellS 2 (by omega)
                  have e3 := cellS 3 (by omega)
                  simp only [stC, List.getElem?_cons_zero, List.getElem?_cons_succ, Nat.add_zero] at e0 e1 e2 e3
                  have hfi := hRs.fine s (List.mem_of_getElem? hs)
                  have hrt := run_take hs (fun j => Fin.ofNat 256 (yv j x))
                  generalize F.run (l.take u) (fun j => Fin.ofNat 256 (yv j x)) = f at *
                  have n0 : (wr.alloc (.cells #[.int .i64 ((s.kind : Nat) : Int), .int .i64 ((s.a : Nat) : Int), .int .i64 ((s.b : Nat) : Int), .int .u8 ((s.z.val : Nat) : Int)] 94)).rowIs wr.heap.size 94 4 (fun p => if p = 0 then .int .i64 ((s.kind : Nat) : Int) else if p = 1 then .int .i64 ((s.a : Nat) : Int) else if p = 2 then .int .i64 ((s.b : Nat) : Int) else .int .u8 ((s.z.val : Nat) : Int)) :=
                    World.rowIs_alloc wr #[.int .i64 ((s.kind : Nat) : Int), .int .i64 ((s.a : Nat) : Int), .int .i64 ((s.b : Nat) : Int), .int .u8 ((s.z.val : Nat) : Int)] 94 _ (fun p hp => by
                      have : p = 0 ∨ p = 1 ∨ p = 2 ∨ p = 3 := by simp at hp; omega
                      rcases this with rfl | rfl | rfl | rfl <;> rfl)
                  have hv1 := hv.alloc (.cells #[.int .i64 ((s.kind : Nat) : Int), .int .i64 ((s.a : Nat) : Int), .int .i64 ((s.b : Nat) : Int), .int .u8 ((s.z.val : Nat) : Int)] 94)
                  have hbv1 := hbv.alloc hsv (.cells #[.int .i64 ((s.kind : Nat) : Int), .int .i64 ((s.a : Nat) : Int), .int .i64 ((s.b : Nat) : Int), .int .u8 ((s.z.val : Nat) : Int)] 94)
                  generalize hW1 : wr.alloc (.cells #[.int .i64 ((s.kind : Nat) : Int), .int .i64 ((s.a : Nat) : Int), .int .i64 ((s.b : Nat) : Int), .int .u8 ((s.z.val : Nat) : Int)] 94) = W1 at n0 hv1 hbv1
                  have a0 := n0.cell (i := 0) (by omega)
                  have a1 := n0.cell (i := 1) (by omega)
                  have a2 := n0.cell (i := 2) (by omega)
                  have a3 := n0.cell (i := 3) (by omega)
                  simp only [if_true, Nat.one_ne_zero, if_false, Nat.reduceEqDiff] at a0 a1 a2 a3
                  have ba := (hv1.cellAt s.a (by have := hfi.a; omega)).trans (bvL_get _ hfi.a)
                  have bb := (hv1.cellAt s.b (by have := hfi.b; omega)).trans (bvL_get _ hfi.b)
                  have fa := hv1.frozenAt s.a
                  have fb := hv1.frozenAt s.b
                  have ha' : (s.a : Int) < (t : Int) := by have := hfi.a; omega
                  have hb' : (s.b : Int) < (t : Int) := by have := hfi.b; omega
                  have hgne : wr.heap.size ≠ gv := by have := (hv.lt gv rfl).2; omega
                  clear cellS n0 hv hbv
                  by_cases k0 : s.kind = 0
                  · have kk : (((s.kind : Nat) : Int) == 0) = true := by rw [k0]; rfl
                    have st1 := (hv1.stored s.a (.int .u8 (((f s.b).val : Nat) : Int))).1
                    rw [bvL_set] at st1
                    have st2 := (st1.stored s.b (.int .u8 (((f s.a).val : Nat) : Int))).1
                    rw [bvL_set] at st2
                    have d1 := (st1.cellAt s.b (by have := hfi.b; omega)).trans (bvL_get _ hfi.b)
                    have d2 := st1.frozenAt s.b
                    have hb2 : Below wx.heap.size wx ((W1.setCell ⟨gv, s.a, none⟩ (.int .u8 (((f s.b).val : Nat) : Int))).setCell ⟨gv, s.b, none⟩ (.int .u8 (((f s.a).val : Nat) : Int))) := (hbv1.setCell hgv _).setCell hgv _
                    rw [bvL_congr (r' := F.run (l.take (u + 1)) (fun j => Fin.ofNat 256 (yv j x))) (fun j _ => by
                      rw [hrt]
                      unfold F.ap
                      rw [if_pos k0]
                      by_cases q1 : j = s.b
                      · by_cases q2 : j = s.a
                        · rw [if_pos q1, if_pos q2, ← q1, ← q2]
                        · rw [if_pos q1, if_neg q2, if_pos q1]
                      · rw [if_neg q1]
                        by_cases q2 : j = s.a
                        · rw [if_pos q2, if_pos q2]
                        · rw [if_neg q2, if_neg q2, if_neg q1])] at st2
                    have a2' : (W1.setCell ⟨gv, s.a, none⟩ (.int .u8 (((f s.b).val : Nat) : Int))).cell? ⟨wr.heap.size, 2, none⟩ = some (.int .i64 ((s.b : Nat) : Int)) := by
                      have hh := Below.heap_setCell W1 ⟨gv, s.a, none⟩ (.int .u8 (((f s.b).val : Nat) : Int)) wr.heap.size hgne
                      simp only [World.cell?, hh] at a2 ⊢
                      exact a2
                    clear st1 hrt k0 hfi hs hgne
                    generalize s.kind = sk at *
                    generalize s.a = sa at *
                    generalize s.b = sb at *
                    generalize (f sa).val = va at *
                    generalize (f sb).val = vb at *
                    go_wp2_with fail
                    go_region
                    generalize (W1.setCell ⟨gv, sa, none⟩ (.int .u8 ((vb : Nat) : Int))).setCell ⟨gv, sb, none⟩ (.int .u8 ((va : Nat) : Int)) = wz at st2 hb2 ⊢
                    have st3 := st2.drew
                    have hb3' : Below wx.heap.size wx wz.drew := hb2.drew
                    clear st2 hb2
                    go_wp2
                    go_roundw
                    case rel => exact ⟨u + 1, by omega, by go_num, st3, hb3'⟩
                    case measure => simp [intOf]; omega
                  · have kk : (((s.kind : Nat) : Int) == 0) = false := by simp; omega
                    by_cases k1 : s.kind = 1
                    · have kk1 : (((s.kind : Nat) : Int) == 1) = true := by rw [k1]; rfl
                      have cm := fun u => rmul_any (f s.a).val s.z.val (f s.a).isLt s.z.isLt u
                      rw [refMul_val] at cm
                      have st1 := (hv1.stored s.a (.int .u8 (((F.mu (f s.a) s.z).val : Nat) : Int))).1
                      rw [bvL_set] at st1
                      rw [bvL_congr (r' := F.run (l.take (u + 1)) (fun j => Fin.ofNat 256 (yv j x))) (fun j _ => by rw [hrt]; unfold F.ap; rw [if_neg k0, if_pos k1])] at st1
                      have hb2 : Below wx.heap.size wx (W1.setCell ⟨gv, s.a, none⟩ (.int .u8 (((F.mu (f s.a) s.z).val : Nat) : Int))) := hbv1.setCell hgv _
                      clear hrt k0 k1 hfi hs hgne
                      generalize F.mu (f s.a) s.z = mz at *
                      generalize s.kind = sk at *
                      generalize s.a = sa at *
                      go_wp2_with fail
                      refine wp_region_tailR 12 mixedR (by kernel_rfl) ?_
                      simp only [List.take_succ_cons, List.take_zero, List.drop_succ_cons, List.drop_zero]
                      repeat still_step
                      still_call (cm _)
                      repeat still_step
                      refine wpStill_nil ?_
                      go_wp2
                      have st3 := st1.drew
                      have hb3' : Below wx.heap.size wx (W1.setCell ⟨gv, sa, none⟩ (.int .u8 ((mz.val : Nat) : Int))).drew := hb2.drew
                      go_roundw
                      case rel => exact ⟨u + 1, by omega, by go_num, st3, hb3'⟩
                      case measure => simp [intOf]; omega
                    · have kk1 : (((s.kind : Nat) : Int) == 1) = false := by simp; omega
                      have cm := fun u => rmul_any s.z.val (f s.b).val s.z.isLt (f s.b).isLt u
                      rw [refMul_val] at cm
                      have hxo := u8_xor_nat (f s.a).val (F.mu s.z (f s.b)).val (f s.a).isLt (F.mu s.z (f s.b)).isLt
                      rw [show (f s.a).val ^^^ (F.mu s.z (f s.b)).val = (F.add (f s.a) (F.mu s.z (f s.b))).val from rfl] at hxo
                      have st1 := (hv1.stored s.a (.int .u8 (((F.add (f s.a) (F.mu s.z (f s.b))).val : Nat) : Int))).1
                      rw [bvL_set] at st1
                      rw [bvL_congr (r' := F.run (l.take (u + 1)) (fun j => Fin.ofNat 256 (yv j x))) (fun j _ => by rw [hrt]; unfold F.ap; rw [if_neg k0, if_neg k1])] at st1
                      have hb2 : Below wx.heap.size wx (W1.setCell ⟨gv, s.a, none⟩ (.int .u8 (((F.add (f s.a) (F.mu s.z (f s.b))).val : Nat) : Int))) := hbv1.setCell hgv _
                      clear hrt k0 k1 hfi hs hgne
                      generalize F.add (f s.a) (F.mu s.z (f s.b)) = az at *
                      generalize F.mu s.z (f s.b) = mz at *
                      generalize s.kind = sk at *
                      generalize s.a = sa at *
                      generalize s.b = sb at *
                      go_wp2_with fail
                      refine wp_region_tailR 18 mixedR (by kernel_rfl) ?_
                      simp only [List.take_succ_cons, List.take_zero, List.drop_succ_cons, List.drop_zero]
                      repeat still_step
                      still_call (cm _)
                      repeat still_step
                      refine wpStill_nil ?_
                      go_wp2
                      have st3 := st1.drew
                      have hb3' : Below wx.heap.size wx (W1.setCell ⟨gv, sa, none⟩ (.int .u8 ((az.val : Nat) : Int))).drew := hb2.drew
                      go_roundw
                      case rel => exact ⟨u + 1, by omega, by go_num, st3, hb3'⟩
                      case measure => simp [intOf]; omega
                · obtain rfl : u = l.length := by omega
                  have hnl3 : ¬ ((l.length : Int) < (l.length : Int)) := by omega
                  rw [List.take_length, bvL_congr (r' := fun j => xs j x) (fun j hj => hRs.told hU (hsol x hlt2) j hj)] at hv
                  have hX1 := hX.keep hBx hbv
                  have hv1 := hv.mono hBx
                  have hsp : ∀ j, j < t → (ov j).ownBlock ≠ some gv := fun j hj e => by have := ((hX.own j hj).lt gv e).2; omega
                  have h0 : OutJ w.heap.size t go (.slice bs l.length cps) l x xs gv cv w (.int .i64 0) wr := ⟨0, ov, by omega, rfl, hX1, hv1, hsp⟩
                  clear hv hbv hX1 hv1 hsp hX hCx hDx
                  go_wp2
                  go_loopw [15] (fun vi wq => OutJ w.heap.size t go (.slice bs l.length cps) l x xs gv cv w vi wq) (fun vi _ => t - (intOf vi).toNat)
                  case atStart => exact h0
                  case round =>
                    clear h0
                    obtain ⟨j, oj, hjt, rfl, hX, hv, hsp⟩ := hrel
                    by_cases hjk : j < t
                    · have hjk' : (j : Int) < (t : Int) := by omega
                      have r1 := hX.row.cell hjk
                      have r2 := (hv.cellAt j (by omega)).trans (bvL_get _ hjk)
                      have hoj := hX.own j hjk
                      rw [if_neg (by omega)] at hoj
                      have hsz2 := hX.size
                      have r1' := (hX.row.alloc (.cells #[.int .u8 (((xs j x).val : Nat) : Int)] 5)).cell hjk
                      have r2' := ((hv.alloc (.cells #[.int .u8 (((xs j x).val : Nat) : Int)] 5)).cellAt j (by omega)).trans (bvL_get _ hjk)
                      go_wp2_with fail
                      go_region_law ((refine step_append_atR rfl _ _ 24 rfl w.heap.size 5 i5 (.int .u8 0) 1 1 Tryz.underlying24 hi5 hy0 hy1 hy2 rfl (by decide) _ _ _ rfl ((hoj.alloc _).drew) ⟨wr.heap.size, 0, none⟩ 1 1 [.int .u8 (((xs j x).val : Nat) : Int)] rfl rfl (cell_one_new _ _ _) (one_u8 _) (by unfold maxLen; omega) (by omega) (by simp; omega) ?_; intro v' w1 hown' hgrow hwh; obtain ⟨gq, cq, rfl, _, _⟩ := hown'.form (by omega); obtain ⟨hX2, hv2, hsp2, c1, f1⟩ := hX.push hjk hv hsp (((Below.refl wr.heap.size wr).alloc (Nat.le_refl _) _).drew) hgrow (by rw [if_neg (show ¬ j < j by omega)]; exact hown') hwh))
                      all_goals
                        go_wp2
                        go_roundw
                        case rel =>
                          refine ⟨j + 1, _, by omega, by go_num, hX2.congr (fun a _ => ?_), hv2, hsp2⟩
                          simp only [if_neg (show ¬ j < j by omega)]
                          by_cases e1 : a = j
                          · rw [if_pos e1, if_pos (by omega)]
                          · rw [if_neg e1]
                            by_cases e2 : a < j
                            · rw [if_pos e2, if_pos (by omega)]
                            · rw [if_neg e2, if_neg (by omega)]
                        case measure => simp [intOf]; omega
                    · obtain rfl : j = t := by omega
                      have hnl4 : ¬ ((j : Int) < (j : Int)) := by omega
                      have hX2 := hX.congr (n' := fun _ => x + 1) (fun a ha => by rw [if_pos ha])
                      go_wp2
                      go_roundw
                      case rel => exact ⟨x + 1, oj, by omega, by go_num, hX2⟩
                      case measure => simp [intOf]; omega
        · obtain rfl : x = q.L := by omega
          have hnl2 : ¬ ((q.L : Int) < (q.L : Int)) := by omega
          go_wp2
          go_ret
          exact ⟨go, ov, rfl, hX.row, hX.own, hX.bel⟩
end Go.Proofs.YtlghjjennhpjeaaGreatDoor

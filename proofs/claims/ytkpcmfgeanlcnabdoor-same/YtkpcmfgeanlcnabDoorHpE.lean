/-
  The program's heap: Push, Len, Pop: run alone.
-/
import Derived.Test.YtkpcmfgeanlcnabDoorHpC
import Derived.Maps.AppendAt
import Derived.Deep.RegionLaw
namespace Go.Proofs.YtkpcmfgeanlcnabDoor
open Go.RowKit Go.Deep Go.Hp

theorem Tryd.infoEnt : (Tryd.prog.info? 64).map (fun i => (i.zero, i.size, i.bytes)) = some (some (.agg #[.string ⟨#[]⟩, .string ⟨#[]⟩, .slice none 0 0]), 3, 56) := by kernel_rfl
theorem entC_one (e : Ent) : ∀ u ∈ entC e, u.oneCell' = true := by
  intro u hu
  simp [entC] at hu
  rcases hu with rfl | rfl
  · rfl
  · rfl
theorem cell_three_new (w : World) (x y z : Value) (t : TypeId) : ∀ j u, [x, y, z][j]? = some u → (w.alloc (.cells #[x, y, z] t)).cell? ((⟨w.heap.size, 0, none⟩ : Addr).add j) = some u := by
  intro j u hj
  match j, hj with
  | 0, hj => simp at hj; subst hj; simp [Addr.add]
  | 1, hj => simp at hj; subst hj; simp [Addr.add]
  | 2, hj => simp at hj; subst hj; simp [Addr.add]
theorem step_app_at {P : Program} {ops : Array Oper} {o : Oper} {a : Act} {w : World} {K : Act → World → Prop} {Q : Exit → Act → World → Prop} {E : Prop}
    (hg : o.guard = none) (s x : Operand) (t : TypeId) (hop : o.op = Op.call { callee := Callee.builtin Builtin.append, args := #[s, x], argTypes := #[t, t] })
    (base : Nat) (e : TypeId) (i : TypeInfo) (z : Value) (size bytes : Nat) (h1 : P.underlying t = some (.slice e)) (h2 : P.info? e = some i) (h3 : i.zero = some z) (h4 : i.size = size) (h5 : i.bytes = bytes) (h6 : z.cells.size = size) (h7 : 0 < size)
    (v : Value) (n : Nat) (xs : List Value) (hs : a.eval s = v) (hown : w.ownsRow base e size v n xs)
    (ad : Addr) (m c : Nat) (news : List Value) (hx : a.eval x = .slice (some ad) m c) (hn : news.length = m * size) (hc : ∀ j u, news[j]? = some u → w.cell? (ad.add j) = some u) (h1c : ∀ u ∈ news, u.oneCell' = true)
    (b1 : n + m ≤ maxLen) (b2 : (n + m) * bytes ≤ 140737488355328) (hbase : base ≤ w.heap.size)
    (hK : ∀ v' w', w'.ownsRow base e size v' (n + m) (xs ++ news) → w.grownBy w' v.ownBlock → (v'.ownBlock = v.ownBlock ∨ v'.ownBlock = some w.heap.size) → K (a.put o.dst v') w') :
    if Region.wanted o (yielded ops a.tmps) = true then Oper.wp P o a w K Q else E := by
  have hw : Region.wanted o (yielded ops a.tmps) = true := by simp [Region.wanted, hg]
  rw [if_pos hw]
  obtain ⟨v', w', hr, r1, r2, _, r4⟩ := run_append_own_at (P := P) w base t o.type e i z size bytes h1 h2 h3 h4 h5 h6 h7 v n xs hown ad m c news hn hc h1c b1 b2 hbase
  unfold Oper.wp
  simp [execOp, hop, resolve, invoke, builtin, hs, hx, hr, Result.andThen]
  exact hK v' w' r1 r2 r4

theorem HA.push {B h n : Nat} {f : Nat → Ent} {v v' : Value} {e : Ent} {w wa w1 : World} (H : HA B h n f v w) (hB : B ≤ w.heap.size) (ha : Below w.heap.size w wa) (hg : wa.grownBy w1 v.ownBlock) (ho : w1.ownsRow B 64 3 v' (n + 1) (entL n f ++ entC e)) :
    HA B h (n + 1) (fun x => if x = n then e else f x) v' (w1.setCell ⟨h, 0, none⟩ v') ∧ w1.cell? ⟨h, 0, none⟩ = some v ∧ w1.frozen? ⟨h, 0, none⟩ = false ∧ Below h w (w1.setCell ⟨h, 0, none⟩ v') ∧ B ≤ (w1.setCell ⟨h, 0, none⟩ v').heap.size := by
  have hlow := H.low
  have hsa := ha.size
  have k : w1.heap[h]? = w.heap[h]? := (hg.block h (by omega) (fun e' => by have := (H.own.lt h e'.symm).1; omega)).trans (ha.block h (by omega))
  have r := H.var.of_block k
  have hbw : Below B w w1 := ((ha.mono hB).grown hg (by omega) (fun x hx => (H.own.lt x hx).1))
  have hs1 := hbw.size
  refine ⟨⟨(r.set 0 v').congr fun i hi => by rw [if_pos (by omega)], ?_, hlow⟩, r.cell (i := 0) (by omega), r.frozen 0, ?_, by simp; omega⟩
  · rw [entL_succ, if_pos rfl, entL_congr (g := f) fun i hi => by rw [if_neg (by omega)]]
    exact ownsRow_setCell_below ho (a := ⟨h, 0, none⟩) hlow v'
  · exact (hbw.mono (Nat.le_of_lt hlow)).setCell (p := ⟨h, 0, none⟩) (Nat.le_refl _) _
theorem up_start {f : Nat → Ent} {n : Nat} {e : Ent} (h : Hp f n) : HpUp (fun x => if x = n then e else f x) (n + 1) n :=
  ⟨fun c h0 hc hne => by
    dsimp only
    rw [if_neg (show ¬ (c - 1) / 2 = n by omega), if_neg hne]
    exact h c h0 (by omega), fun c h0 hc hcn _ => by omega⟩

set_option maxHeartbeats 8000000 in
set_option maxRecDepth 100000 in
theorem push_any (B h n : Nat) (f : Nat → Ent) (v : Value) (e : Ent) (w : World) (H : HA B h n f v w) (hB : B ≤ w.heap.size) (hn : n ≤ 1048576) (hp : Hp f n) :
    Calls Tryd.prog 15 #[.pointer (some ⟨h, 0, none⟩), strV e.k, .agg #[strV e.k, e.d]] w fun r w' => r = .returned (.tuple #[]) ∧ ∃ f' v', HA B h (n + 1) f' v' w' ∧ Rearr (n + 1) (fun x => if x = n then e else f x) f' ∧ Hp f' (n + 1) ∧ Below h w w' ∧ B ≤ w'.heap.size := by
  obtain ⟨i0, hi0, hz0, hz1, hz2⟩ := info_parts Tryd.infoEnt
  have n0 : (w.alloc (.cells #[strV e.k, e.d] 31)).rowIs w.heap.size 31 2 (fun j => if j = 0 then strV e.k else e.d) :=
    World.rowIs_alloc w #[strV e.k, e.d] 31 _ (fun i hi => by
      have : i = 0 ∨ i = 1 := by simp at hi; omega
      rcases this with rfl | rfl <;> rfl)
  have hlow := H.low
  have b0 : Below h w (w.alloc (.cells #[strV e.k, e.d] 31)) := (Below.refl _ _).alloc (by omega) _
  have H0 : HA B h n f v (w.alloc (.cells #[strV e.k, e.d] 31)) := ⟨H.var.alloc _, H.own.alloc _, H.low⟩
  have hB0 : B ≤ (w.alloc (.cells #[strV e.k, e.d] 31)).heap.size := by simp; omega
  obtain ⟨bo, cap, rfl⟩ : ∃ bo cap, v = .slice bo n cap := by
    rcases H.own.2 with ⟨rfl, rfl⟩ | ⟨g, cap, _, rfl, _⟩ <;> exact ⟨_, _, rfl⟩
  clear H hB
  unfold strV Ent.d at *
  go_enter Tryd.func15, Tryd.ntmps15
  go_wp2_with fail
  have a0 := H0.var.cell (i := 0) (by omega)
  have c0 := n0.cell (i := 0) (by omega)
  have c1 := n0.cell (i := 1) (by omega)
  have a0' := (H0.var.alloc (.cells #[.string ⟨e.k.toArray⟩, .string ⟨e.k.toArray⟩, .slice e.a e.l e.c] 64)).cell (i := 0) (by omega)
  have c0' := (n0.alloc (.cells #[.string ⟨e.k.toArray⟩, .string ⟨e.k.toArray⟩, .slice e.a e.l e.c] 64)).cell (i := 0) (by omega)
  have c1' := (n0.alloc (.cells #[.string ⟨e.k.toArray⟩, .string ⟨e.k.toArray⟩, .slice e.a e.l e.c] 64)).cell (i := 1) (by omega)
  simp only [if_true, Nat.one_ne_zero, if_false] at c0 c1 c0' c1'
  generalize hw0 : w.alloc (.cells #[.string ⟨e.k.toArray⟩, .slice e.a e.l e.c] 31) = w0 at *
  clear n0 hw0
  go_region_law ((refine step_app_at rfl _ _ 45 rfl B 64 i0 (.agg #[.string ⟨#[]⟩, .string ⟨#[]⟩, .slice none 0 0]) 3 56 Tryd.underlying45 hi0 hz0 hz1 hz2 rfl (by decide) _ _ _ rfl ((H0.own.alloc _).drew) ⟨w0.heap.size, 0, none⟩ 1 1 (entC e) rfl rfl (cell_three_new _ _ _ _ _) (entC_one e) (by unfold maxLen; omega) (by omega) (by simp; omega) ?_; intro v' w1 hown' hgrow hwh; obtain ⟨gq, cq, rfl, _, _⟩ := hown'.form (by omega); obtain ⟨H2, d1, d2, hb2, hB2⟩ := H0.push hB0 (((Below.refl w0.heap.size w0).alloc (Nat.le_refl _) _).drew) hgrow hown'))
  all_goals
    have k3 := siftUp_any B h (n + 1) n _ _ _ H2 (by omega) (up_start hp)
    have g0 := H2.var.cell (i := 0) (by omega)
    have hbw := b0.trans hb2
    clear H0 H2 a0 a0' c0 c0' c1 c1' d1 d2 b0 hb2 hgrow hwh
    generalize w1.setCell ⟨h, 0, none⟩ (.slice (some ⟨gq, 0, none⟩) (n + 1) cq) = w2 at *
    go_wp2_with (first | (go_at_call 24; (with_reducible refine k3.mono ?_); rintro r w3 ⟨rfl, f', H3, hR3, hp3, hb3⟩))
    go_end0
    exact ⟨rfl, f', _, H3, hR3, hp3, hbw.trans ((hb3.below hB2 (fun g hg' => by have := (hown'.lt g hg').1; omega)).mono (Nat.le_of_lt hlow)), Nat.le_trans hB2 hb3.size⟩
end Go.Proofs.YtkpcmfgeanlcnabDoor

/-
  The program's heap: Len, Pop: run alone.
-/
namespace Go.Proofs.YtkpcmfgeanlcnabDoor
open Go.RowKit Go.Deep Go.Hp

set_option maxHeartbeats 400000 in
set_option maxRecDepth 100000 in
theorem len_any (B h n : Nat) (f : Nat → Ent) (v : Value) (w : World) (H : HA B h n f v w) :
    Calls Tryd.prog 16 #[.pointer (some ⟨h, 0, none⟩)] w fun r w' => r = .returned (.int .i64 ((n : Nat) : Int)) ∧ w' = w := by
  have a0 := H.var.cell (i := 0) (by omega)
  obtain ⟨bo, cap, rfl⟩ : ∃ bo cap, v = .slice bo n cap := by
    rcases H.own.2 with ⟨rfl, rfl⟩ | ⟨g, cap, _, rfl, _⟩ <;> exact ⟨_, _, rfl⟩
  clear H
  go_enter Tryd.func16, Tryd.ntmps16
  go_wp2
  go_ret
  exact ⟨rfl, rfl⟩

theorem owns_less {w : World} {B n g cap : Nat} {f : Nat → Ent} (h : w.ownsRow B 64 3 (.slice (some ⟨g, 0, none⟩) (n + 1) cap) (n + 1) (entL (n + 1) f)) : w.ownsRow B 64 3 (.slice (some ⟨g, 0, none⟩) n cap) n (entL n f) := by
  refine ⟨entL_length n f, .inr ?_⟩
  rcases h.2 with ⟨h1, _⟩ | ⟨g', cap', cur, h1, h2, h3, h4, h5, h6, h7⟩
  · cases h1
  · cases h1
    refine ⟨g, cap, cur, rfl, h2, h3, by omega, h5, h6, ?_⟩
    have := congrArg (List.take (n * 3)) h7
    rw [List.take_take, Nat.min_eq_left (by omega), entL_succ, List.take_append_of_le_length (by rw [entL_length]; omega)] at this
    rw [this, List.take_of_length_le (by rw [entL_length]; omega)]

def popF (n : Nat) (f : Nat → Ent) (x : Nat) : Ent := if x = 0 then f n else f x
theorem pop_dn {n : Nat} {f : Nat → Ent} (h : Hp f (n + 1)) : HpDn (popF n f) n 0 :=
  ⟨fun c h0 hc hne => by
    unfold popF
    rw [if_neg hne, if_neg (by omega)]
    exact h c h0 (by omega), fun c _ _ _ h0 => absurd h0 (by omega)⟩

def PopPost (B h n : Nat) (f : Nat → Ent) (v : Value) (w : World) (r : Ending) (w' : World) : Prop := r = .returned (.agg #[strV (f 0).k, (f 0).d]) ∧ ∃ f' v', HA B h n f' v' w' ∧ Rearr n (popF n f) f' ∧ Hp f' n ∧ Below h w w' ∧ B ≤ w'.heap.size ∧ ∀ b, b < w.heap.size → b ≠ h → some b ≠ v.ownBlock → w'.heap[b]? = w.heap[b]?

set_option maxHeartbeats 4000000 in
set_option maxRecDepth 100000 in
theorem pop_any (B h n : Nat) (f : Nat → Ent) (v : Value) (w : World) (H : HA B h (n + 1) f v w) (hB : B ≤ w.heap.size) (hn : n ≤ 1048576) (hp : Hp f (n + 1)) :
    Calls Tryd.prog 17 #[.pointer (some ⟨h, 0, none⟩)] w fun r w' => PopPost B h n f v w r w' := by
  obtain ⟨g, cap, rfl, hg, hnc, hcm⟩ := H.form (by omega)
  have hcm' : cap ≤ 9223372036854775807 := hcm
  clear hcm
  have hlow := H.low
  -- the result's variable, then the variable first
  have nR : (w.alloc (.cells #[.string ⟨#[]⟩, .slice none 0 0] 31)).rowIs w.heap.size 31 2 (fun j => if j = 0 then .string ⟨#[]⟩ else .slice none 0 0) :=
    World.rowIs_alloc w #[.string ⟨#[]⟩, .slice none 0 0] 31 _ (fun i hi => by
      have : i = 0 ∨ i = 1 := by simp at hi; omega
      rcases this with rfl | rfl <;> rfl)
  have H0 : HA B h (n + 1) f (.slice (some ⟨g, 0, none⟩) (n + 1) cap) (w.alloc (.cells #[.string ⟨#[]⟩, .slice none 0 0] 31)) := ⟨H.var.alloc _, H.own.alloc _, H.low⟩
  have b0 : Below h w (w.alloc (.cells #[.string ⟨#[]⟩, .slice none 0 0] 31)) := (Below.refl _ _).alloc (by omega) _
  have s0 : (w.alloc (.cells #[.string ⟨#[]⟩, .slice none 0 0] 31)).heap.size = w.heap.size + 1 := by simp
  clear H
  generalize hw0 : w.alloc (.cells #[.string ⟨#[]⟩, .slice none 0 0] 31) = w0 at *
  have n1 : (w0.alloc (.cells #[strV (f 0).k, (f 0).d] 31)).rowIs (w.heap.size + 1) 31 2 (fun j => if j = 0 then strV (f 0).k else (f 0).d) := by
    rw [← s0]
    exact World.rowIs_alloc w0 #[strV (f 0).k, (f 0).d] 31 _ (fun i hi => by
      have : i = 0 ∨ i = 1 := by simp at hi; omega
      rcases this with rfl | rfl <;> rfl)
  have nR1 := nR.alloc (.cells #[strV (f 0).k, (f 0).d] 31)
  have H1 : HA B h (n + 1) f (.slice (some ⟨g, 0, none⟩) (n + 1) cap) (w0.alloc (.cells #[strV (f 0).k, (f 0).d] 31)) := ⟨H0.var.alloc _, H0.own.alloc _, H0.low⟩
  have b1 := b0.alloc (by omega) (.cells #[strV (f 0).k, (f 0).d] 31)
  have s1 : (w0.alloc (.cells #[strV (f 0).k, (f 0).d] 31)).heap.size = w.heap.size + 2 := by simp; omega
  have a0 := H0.var.cell (i := 0) (by omega)
  obtain ⟨c0, c1, c2⟩ := H0.at 0 (by omega)
  have a1 := H1.var.cell (i := 0) (by omega)
  obtain ⟨d0, d1, d2⟩ := H1.at n (by omega)
  obtain ⟨e0, _, _⟩ := H1.at 0 (by omega)
  simp only [Nat.zero_mul, Nat.zero_add] at c0 c1 c2 e0
  have o0 := H1.own
  have ex : ∀ {w : World} {xs : List Value}, w.ownsRow B 64 3 (.slice (some ⟨g, 0, none⟩) (n + 1) cap) (n + 1) xs → ∀ p, p < (n + 1) * 3 → ∃ y, w.cell? ⟨g, p, none⟩ = some y := fun {w xs} o p hp => ⟨xs[p]'(by rw [o.1]; exact hp), by rw [o.cellAt p hp]; simp⟩
  have z0 := o0.frozenAt 0
  have o1 := (o0.stored 0 (strV (f n).k)).1
  obtain ⟨y1, e1⟩ := ex o1 1 (by omega)
  have z1 := o1.frozenAt 1
  have o2 := (o1.stored 1 (strV (f n).k)).1
  obtain ⟨y2, e2⟩ := ex o2 2 (by omega)
  have z2 := o2.frozenAt 2
  have o3 := (o2.stored 2 (f n).d).1
  have hes := entL_set (n + 1) f 0 (by omega) (f n)
  simp only [Nat.zero_mul, Nat.zero_add] at hes
  rw [hes] at o3
  have hgh : h ≠ g := by omega
  have hgR : w.heap.size ≠ g := by
    have := (H0.own.lt g rfl).2
    intro e
    subst e
    rcases nR with ⟨cR, q1, q2, _⟩
    rcases H0.own.2 with ⟨q, _⟩ | ⟨g', cap', cur, q, _, q3, _⟩
    · cases q
    · cases q
      rw [q1] at q3
      cases q3
  have hgF : w.heap.size + 1 ≠ g := by
    have := (H0.own.lt g rfl).2
    omega
  have H2 : HA B h (n + 1) (popF n f) (.slice (some ⟨g, 0, none⟩) (n + 1) cap) ((((w0.alloc (.cells #[strV (f 0).k, (f 0).d] 31)).setCell ⟨g, 0, none⟩ (strV (f n).k)).setCell ⟨g, 1, none⟩ (strV (f n).k)).setCell ⟨g, 2, none⟩ (f n).d) :=
    ⟨((H1.var.setOther (a := ⟨g, 0, none⟩) hgh _).setOther (a := ⟨g, 1, none⟩) hgh _).setOther (a := ⟨g, 2, none⟩) hgh _, o3, H1.low⟩
  have n2 := ((n1.setOther (a := ⟨g, 0, none⟩) hgF (strV (f n).k)).setOther (a := ⟨g, 1, none⟩) hgF (strV (f n).k)).setOther (a := ⟨g, 2, none⟩) hgF (f n).d
  have nR2 := ((nR1.setOther (a := ⟨g, 0, none⟩) hgR (strV (f n).k)).setOther (a := ⟨g, 1, none⟩) hgR (strV (f n).k)).setOther (a := ⟨g, 2, none⟩) hgR (f n).d
  have b2 := ((b1.setCell (p := ⟨g, 0, none⟩) (show h ≤ g by omega) (strV (f n).k)).setCell (p := ⟨g, 1, none⟩) (show h ≤ g by omega) (strV (f n).k)).setCell (p := ⟨g, 2, none⟩) (show h ≤ g by omega) (f n).d
  have f2 : ∀ b, b < w.heap.size → b ≠ g → ((((w0.alloc (.cells #[strV (f 0).k, (f 0).d] 31)).setCell ⟨g, 0, none⟩ (strV (f n).k)).setCell ⟨g, 1, none⟩ (strV (f n).k)).setCell ⟨g, 2, none⟩ (f n).d).heap[b]? = w.heap[b]? := fun b hb hne => by
    rw [Below.heap_setCell _ _ _ _ hne, Below.heap_setCell _ _ _ _ hne, Below.heap_setCell _ _ _ _ hne, Below.heap_alloc _ _ _ (by omega), ← hw0, Below.heap_alloc _ _ _ hb]
  have s2 : ((((w0.alloc (.cells #[strV (f 0).k, (f 0).d] 31)).setCell ⟨g, 0, none⟩ (strV (f n).k)).setCell ⟨g, 1, none⟩ (strV (f n).k)).setCell ⟨g, 2, none⟩ (f n).d).heap.size = w.heap.size + 2 := by simp; omega
  clear o0 o1 o2 o3 hes ex H1 n1 nR1 b1 s1 nR b0
  have ed : ((n : Int) + 1) - 1 = (n : Int) := by omega
  have hnl : (n : Int) < ((n + 1 : Nat) : Int) := by omega
  have hcap : (n : Int) ≤ (cap : Int) := by omega
  go_enter Tryd.func17, Tryd.ntmps17
  simp only [strV, Ent.d] at *
  go_wp2
  subst hw0
  go_region
  clear a0 c0 c1 c2 a1 d0 d1 d2 e0 e1 e2 z0 z1 z2 H0 s0 y1 y2
  generalize ((((w.alloc (.cells #[.string ⟨#[]⟩, .slice none 0 0] 31)).alloc (.cells #[.string ⟨(f 0).k.toArray⟩, .slice (f 0).a (f 0).l (f 0).c] 31)).setCell ⟨g, 0, none⟩ (.string ⟨(f n).k.toArray⟩)).setCell ⟨g, 1, none⟩ (.string ⟨(f n).k.toArray⟩)).setCell ⟨g, 2, none⟩ (.slice (f n).a (f n).l (f n).c) = W2 at *
  replace H2 : HA B h (n + 1) (popF n f) (.slice (some ⟨g, 0, none⟩) (n + 1) cap) W2.drew := ⟨H2.var, H2.own, H2.low⟩
  replace n2 : W2.drew.rowIs (w.heap.size + 1) 31 2 (fun j => if j = 0 then .string ⟨(f 0).k.toArray⟩ else .slice (f 0).a (f 0).l (f 0).c) := n2
  replace nR2 : W2.drew.rowIs w.heap.size 31 2 (fun j => if j = 0 then .string ⟨#[]⟩ else .slice none 0 0) := nR2
  replace b2 : Below h w W2.drew := ⟨b2.os, b2.tape, b2.output, b2.size, b2.block⟩
  replace s2 : W2.drew.heap.size = w.heap.size + 2 := s2
  replace f2 : ∀ b, b < w.heap.size → b ≠ g → W2.drew.heap[b]? = w.heap[b]? := f2
  generalize W2.drew = W3 at *
  have g0 := H2.var.cell (i := 0) (by omega)
  have g1 := H2.var.frozen 0
  have H3 : HA B h n (popF n f) (.slice (some ⟨g, 0, none⟩) n cap) (W3.setCell ⟨h, 0, none⟩ (.slice (some ⟨g, 0, none⟩) n cap)) :=
    ⟨(H2.var.set 0 (.slice (some ⟨g, 0, none⟩) n cap)).congr fun i hi => by rw [if_pos (by omega)], ownsRow_setCell_below (owns_less H2.own) (a := ⟨h, 0, none⟩) hlow _, hlow⟩
  have n3 := n2.setOther (a := ⟨h, 0, none⟩) (show w.heap.size + 1 ≠ h by omega) (.slice (some ⟨g, 0, none⟩) n cap)
  have nR3 := nR2.setOther (a := ⟨h, 0, none⟩) (show w.heap.size ≠ h by omega) (.slice (some ⟨g, 0, none⟩) n cap)
  have b3 := b2.setCell (p := ⟨h, 0, none⟩) (Nat.le_refl _) (.slice (some ⟨g, 0, none⟩) n cap)
  have s3 : (W3.setCell ⟨h, 0, none⟩ (.slice (some ⟨g, 0, none⟩) n cap)).heap.size = w.heap.size + 2 := by simp; exact s2
  have k5 := siftDown_any B h n 0 (popF n f) _ _ H3 (by omega) (.inr rfl) (pop_dn hp)
  rw [show ((0 : Nat) : Int) = 0 from rfl] at k5
  clear H2 n2 nR2 b2 s2
  go_wp2_with (first | (go_at_call 25; (with_reducible refine k5.mono ?_); rintro r W5 ⟨rfl, f', H5, hR5, hp5, hb5⟩; have n5 := n3.of_block (hb5.block (w.heap.size + 1) (by omega) (fun e => hgF (Option.some.inj e))); have nR5 := nR3.of_block (hb5.block w.heap.size (by omega) (fun e => hgR (Option.some.inj e))); have q0 := n5.cell (i := 0) (by omega); have q1 := n5.cell (i := 1) (by omega); have q2 := nR5.cell (i := 0) (by omega); have q3 := nR5.frozen 0; have q4 := (nR5.set 0 (.string ⟨(f 0).k.toArray⟩)).cell (i := 1) (by omega); have q5 := (nR5.set 0 (.string ⟨(f 0).k.toArray⟩)).frozen 1; simp only [if_true, Nat.one_ne_zero, if_false] at q0 q1 q2 q4))
  have hr6 := (nR5.set 0 (.string ⟨(f 0).k.toArray⟩)).set 1 (.slice (f 0).a (f 0).l (f 0).c)
  have H6 : HA B h n f' (.slice (some ⟨g, 0, none⟩) n cap) ((W5.setCell ⟨w.heap.size, 0, none⟩ (.string ⟨(f 0).k.toArray⟩)).setCell ⟨w.heap.size, 1, none⟩ (.slice (f 0).a (f 0).l (f 0).c)) :=
    ⟨(H5.var.setOther (a := ⟨w.heap.size, 0, none⟩) (show h ≠ w.heap.size by omega) _).setOther (a := ⟨w.heap.size, 1, none⟩) (show h ≠ w.heap.size by omega) _, ownsRow_setCell_other (ownsRow_setCell_other H5.own (a := ⟨w.heap.size, 0, none⟩) (fun e => hgR (Option.some.inj e).symm) _) (a := ⟨w.heap.size, 1, none⟩) (fun e => hgR (Option.some.inj e).symm) _, hlow⟩
  have hb6 : Below h w ((W5.setCell ⟨w.heap.size, 0, none⟩ (.string ⟨(f 0).k.toArray⟩)).setCell ⟨w.heap.size, 1, none⟩ (.slice (f 0).a (f 0).l (f 0).c)) :=
    ((b3.trans (hb5.below (by omega) (fun x hx => by have e : g = x := Option.some.inj hx; omega))).setCell (p := ⟨w.heap.size, 0, none⟩) (show h ≤ w.heap.size by omega) _).setCell (p := ⟨w.heap.size, 1, none⟩) (show h ≤ w.heap.size by omega) _
  have hs6 : B ≤ ((W5.setCell ⟨w.heap.size, 0, none⟩ (.string ⟨(f 0).k.toArray⟩)).setCell ⟨w.heap.size, 1, none⟩ (.slice (f 0).a (f 0).l (f 0).c)).heap.size := by
    have := hb5.size
    simp
    omega
  obtain ⟨cR, r1, r2, r3⟩ := hr6
  have hcR : cR = #[.string ⟨(f 0).k.toArray⟩, .slice (f 0).a (f 0).l (f 0).c] := by
    have q0 := r3 0 (by omega)
    have q1 := r3 1 (by omega)
    dsimp only at q0 q1
    rw [if_neg (by omega), if_pos rfl] at q0
    rw [if_pos rfl] at q1
    apply Array.ext_getElem?
    intro i
    match i with
    | 0 => rw [q0]; rfl
    | 1 => rw [q1]; rfl
    | i + 2 => rw [Array.getElem?_eq_none (by omega), Array.getElem?_eq_none (by simp)]
  subst hcR
  refine bodyPost_ret (results_cell_row (p := 2) rfl _ _ w.heap.size 31 _ (0, 0) _ (by rfl) r1 Tryd.underlying31 rfl (by kernel_rfl)) rfl ?_
  refine ⟨rfl, f', _, H6, hR5, hp5, hb6, hs6, fun b hb hbh hbg => ?_⟩
  have hbg' : b ≠ g := fun e => hbg (by rw [e]; rfl)
  rw [Below.heap_setCell _ _ _ _ (show b ≠ w.heap.size by omega), Below.heap_setCell _ _ _ _ (show b ≠ w.heap.size by omega), hb5.block b (by omega) hbg, Below.heap_setCell _ _ _ _ hbh, f2 b hb hbg']
end Go.Proofs.YtkpcmfgeanlcnabDoor

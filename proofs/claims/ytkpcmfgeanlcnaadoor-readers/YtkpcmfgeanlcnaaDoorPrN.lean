/-
  How the program reads a shard: the next piece (moveOn).
-/
import Derived.Test.YtkpcmfgeanlcnaaDoorPrM
import Derived.Test.YtkpcmfgeanlcnaaDoorTailQ
import Derived.Deep.CutRange
namespace Go.Proofs.YtkpcmfgeanlcnaaDoor
open Go.RowKit Go.Deep

theorem OwnB.none {B : Nat} {w : World} {bt : Option Addr} {n ct : Nat} {l : List UInt8} (h : OwnB B w (.slice bt n ct) l) : OwnB B w (.slice bt 0 ct) [] := by
  unfold OwnB at *
  refine ⟨by simp [u8V], ?_⟩
  rcases h.2 with ⟨e, h0⟩ | ⟨g, c, cur, e, hg, hh, hc, hm, hs, _⟩
  · cases e
    exact .inl ⟨rfl, rfl⟩
  · cases e
    exact .inr ⟨g, ct, cur, rfl, hg, hh, Nat.zero_le _, hm, hs, by simp [u8V]⟩
/-- A cell of the Reading itself is turned. -/
theorem RI.put {B rb i : Nat} {w : World} {s s' : St} {t t' : List UInt8} {vN vS vC vT vT' u : Value} (I : RI B w rb s t vN vS vC vT) (h : (s.rd vN vS vC vT .nilIface).cells.set i u = (s'.rd vN vS vC vT' .nilIface).cells) (h1 : s'.ns = s.ns) (h2 : s'.zs = s.zs) (h3 : s'.col = s.col) (hT : OwnB B w vT' t') (hk : vT'.ownBlock = vT.ownBlock) : RI B (w.setCell ⟨rb, i, none⟩ u) rb s' t' vN vS vC vT' := by
  refine ⟨?_, ?_, ?_, ?_, ?_, ?_, ?_⟩
  · have := RowAt.set I.rd i u
    unfold RdAt
    rw [← h]
    exact this
  · rw [h1]; exact owns_set I.on (owns_rd I.on I.rd (by decide))
  · rw [h2]; exact owns_set I.os (owns_rd I.os I.rd (by decide))
  · rw [h3]; exact owns_set I.oc (owns_rd I.oc I.rd (by decide))
  · exact owns_set hT (owns_rd hT I.rd (by decide))
  · intro g hg1 hg2
    exact I.ap g hg1 (hk ▸ hg2)
  · have := I.size; simpa using this
section
variable (B rb : Nat) (s : St) (t : List UInt8) (vN vS vC vT : Value) (hb : Bd s) (ht : t.length ≤ 400000) (w : World) (I : RI B w rb s t vN vS vC vT)
def MovePost (B : Nat) (w : World) (rb : Nat) (s : St) (t : List UInt8) (vN vS vC vT : Value) (q : Ending) (w' : World) : Prop :=
  q = .returned (.tuple #[]) ∧ ∃ vT', RI B w' rb (moveP s t) [] vN vS vC vT' ∧ But w.heap.size (· = rb) w w' ∧ vT'.ownBlock = vT.ownBlock
set_option maxHeartbeats 4000000 in
set_option maxRecDepth 100000 in
include hb ht I in
theorem moveOn_any : Calls Tryd.prog 103 #[.pointer (some ⟨rb, 0, none⟩)] w fun q w' => MovePost B w rb s t vN vS vC vT q w' := by
  obtain ⟨bc, cc, eC, hcc⟩ := I.oc.slice
  obtain ⟨bt, ct, eT, hct⟩ := I.ot.slice
  subst eT
  subst eC
  have hpl := hb.pl
  have hln := hb.ln
  have c6 := RowAt.cell I.rd (i := 6) rfl
  have c8 := RowAt.cell I.rd (i := 8) rfl
  have c10 := RowAt.cell I.rd (i := 10) rfl
  have c11 := RowAt.cell I.rd (i := 11) rfl
  have c12 := RowAt.cell I.rd (i := 12) rfl
  have f10 := RowAt.frozen I.rd 10
  have f11 := RowAt.frozen I.rd 11
  have f12 := RowAt.frozen I.rd 12
  simp only [St.rd] at c6 c8 c10 c11 c12
  have sh := slice_hi bt t.length ct 0 0 rfl (by omega)
  have hnx := hb.nx
  obtain ⟨nx, enx⟩ : ∃ nx, s.nx = nx := ⟨_, rfl⟩
  obtain ⟨pl, epl⟩ : ∃ pl, s.pl = pl := ⟨_, rfl⟩
  obtain ⟨ln, eln⟩ : ∃ ln, s.ln = ln := ⟨_, rfl⟩
  have hwr : IntKind.i64.wrap ((pl : Int) + (t.length : Int)) = (pl : Int) + (t.length : Int) := IntWalk.i64_in _ (by omega)
  rw [enx] at c10 hnx
  rw [epl] at c11 hpl
  rw [eln] at c8 hln
  have I1 : RI B (w.setCell ⟨rb, 11, none⟩ (.int .i64 ((pl : Int) + (t.length : Int)))).drew rb { s with pl := pl + t.length } t vN vS _ _ := (I.put (s' := { s with pl := pl + t.length }) (t' := t) rfl rfl rfl rfl I.ot rfl).drew
  have hB1 : But w.heap.size (· = rb) w (w.setCell ⟨rb, 11, none⟩ (.int .i64 ((pl : Int) + (t.length : Int)))).drew := ((But.refl w.heap.size (· = rb) w).setCell (p := ⟨rb, 11, none⟩) (.inr rfl) _).drew
  have HM : Hid ((moveP s t) = { s with pl := pl + t.length, nx := nextP s }) := by show _ = _; unfold moveP; rw [epl]
  go_enter Tryd.func103, Tryd.ntmps103
  go_wp2_with fail
  refine wp_region_quiet_tail 12 mixed (by kernel_rfl) ?_
  simp only [List.take_succ_cons, List.take_zero, List.drop_succ_cons, List.drop_zero]
  repeat (first | go_big_quiet_skip | (go_big_quiet_want; go_big_quiet_op; go_big_quiet_on))
  refine wpQuiet_nil ?_
  go_upto_region 1 with (fail)
  clear c6 c8 c10 c11 c12 f10 f11 f12 I
  generalize (w.setCell ⟨rb, 11, none⟩ (.int .i64 ((pl : Int) + (t.length : Int)))).drew = w1 at I1 hB1 ⊢
  have I2 : RI B _ rb { s with pl := pl + t.length } [] vN vS _ _ := I1.put (i := 12) (u := .slice bt 0 ct) (s' := { s with pl := pl + t.length }) (t' := []) (vT' := .slice bt 0 ct) rfl rfl rfl rfl I1.ot.none (by cases bt <;> rfl)
  have hB2 := hB1.setCell (p := ⟨rb, 12, none⟩) (.inr rfl) (.slice bt 0 ct)
  have c12 := RowAt.cell I1.rd (i := 12) rfl
  have f12 := RowAt.frozen I1.rd 12
  simp only [St.rd] at c12
  go_upto_region 3 with (fail)
  clear c12 f12 I1 hB1
  generalize w1.setCell ⟨rb, 12, none⟩ (.slice bt 0 ct) = w2 at I2 hB2 ⊢
  have c6 := RowAt.cell I2.rd (i := 6) rfl
  have c8 := RowAt.cell I2.rd (i := 8) rfl
  have c10 := RowAt.cell I2.rd (i := 10) rfl
  have f10 := RowAt.frozen I2.rd 10
  simp only [St.rd] at c6 c8 c10
  rw [enx] at c10
  rw [eln] at c8
  have J0 : ∀ (x j : Nat), RI B ((w2.drewN j).setCell ⟨rb, 10, none⟩ (.int .i64 (x : Int))) rb { s with pl := pl + t.length, nx := x } [] vN vS _ _ := fun x j => (I2.drewN j).put (s' := { s with pl := pl + t.length, nx := x }) (t' := []) (vT' := .slice bt 0 ct) rfl rfl rfl rfl I2.ot rfl
  have hBB : ∀ (j : Nat) (u : Value), But w.heap.size (· = rb) w ((w2.drewN j).setCell ⟨rb, 10, none⟩ u) := fun j u => (hB2.drewN j).setCell (p := ⟨rb, 10, none⟩) (.inr rfl) u
  by_cases q0 : nx = 0
  · have HX : Hid (nextP s = 1) := by show _ = _; unfold nextP; rw [enx, if_pos q0]
    subst q0
    go_wp2
    go_end0
    refine ⟨rfl, .slice bt 0 ct, ?_, hBB 0 _, by cases bt <;> rfl⟩
    rw [HM.out, HX.out]
    exact J0 1 0
  · have q0' : ((nx : Int) == 0) = false := by simp; omega
    by_cases q3 : nx = 3
    · have HX : Hid (nextP s = 4) := by show _ = _; unfold nextP; rw [enx, if_neg q0, if_pos q3]
      subst q3
      go_wp2
      go_end0
      refine ⟨rfl, .slice bt 0 ct, ?_, hBB 0 _, by cases bt <;> rfl⟩
      rw [HM.out, HX.out]
      exact J0 4 0
    · have q3' : ((nx : Int) == 3) = false := by simp; omega
      by_cases q5 : s.col.length < ln
      · have HX : Hid (nextP s = 2) := by show _ = _; unfold nextP; rw [enx, eln, if_neg q0, if_neg q3, if_pos q5]
        go_wp2_with fail
        go_big_quiet (fail)
        go_wp2
        go_end0
        refine ⟨rfl, .slice bt 0 ct, ?_, hBB _ _, by cases bt <;> rfl⟩
        rw [HM.out, HX.out]
        exact J0 2 _
      · have HX : Hid (nextP s = 3) := by show _ = _; unfold nextP; rw [enx, eln, if_neg q0, if_neg q3, if_neg q5]
        go_wp2_with fail
        go_big_quiet (fail)
        go_wp2
        go_end0
        refine ⟨rfl, .slice bt 0 ct, ?_, hBB _ _, by cases bt <;> rfl⟩
        rw [HM.out, HX.out]
        exact J0 3 _
end
end Go.Proofs.YtkpcmfgeanlcnaaDoor

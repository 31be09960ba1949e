/-
  The statement Same, from its call to its return.
-/
import Derived.Test.YtkpcmfgeanlcnabDoorSmF
namespace Go.Proofs.YtkpcmfgeanlcnabDoor
open Go.RowKit Go.Deep Go.Lf Go.Conc Go.ConcN Go.Gh Go.Hp
open Go.ConcR (Payload WgAt wgBlock)

/-- What stands of the real world: all below a bound. -/
structure Kz (h0 : Nat) (w w' : World) : Prop where
  os : w'.os = w.os
  output : w'.output = w.output
  size : w.heap.size ≤ w'.heap.size
  block : ∀ b, b < h0 → w'.heap[b]? = w.heap[b]?
theorem Kz.trans {h0 : Nat} {a b c : World} (h : Kz h0 a b) (h' : Kz h0 b c) : Kz h0 a c := ⟨h'.os.trans h.os, h'.output.trans h.output, Nat.le_trans h.size h'.size, fun x hx => (h'.block x hx).trans (h.block x hx)⟩
theorem kz_sim {h0 : Nat} {X : Nat → Prop} {Y : Nat → Option Obj} {W W' v v' : World} (hs : SimT X Y W v) (hs' : SimT X Y W' v') (hb : Bel h0 v v') (hX : ∀ b, X b → h0 ≤ b) : Kz h0 W W' := by
  obtain ⟨τ, d, h⟩ := hs
  obtain ⟨τ', d', h'⟩ := hs'
  refine ⟨h'.os.trans (Eq.trans (show v'.os = v.os from hb.os) h.os.symm), h'.out.trans (Eq.trans (show v'.output = v.output from hb.output) h.out.symm), ?_, fun b hlt => Sim.agree h h' (fun hx => by have := hX b hx; omega) (hb.blk hlt)⟩
  have e1 : W.heap.size = v.heap.size := h.size
  have e2 : W'.heap.size = v'.heap.size := h'.size
  have := hb.size'
  omega
theorem KpX.kz {h0 : Nat} {X : Nat → Prop} {W W' : World} (h : KpX X W W') (hX : ∀ b, X b → h0 ≤ b) (hW : h0 ≤ W.heap.size) : Kz h0 W W' := ⟨h.os, h.output, h.size, fun b hb => h.block b (by omega) (fun hx => by have := hX b hx; omega)⟩
theorem Ints.sub {w w' : World} {v : Value} {zs : List Int} (h : Ints w v zs) (hs : Sub w w') : Ints w' v zs := by
  refine ⟨h.in64, ?_⟩
  rcases h.lies with h1 | ⟨b, off, cap, h1, h2, h3⟩
  · exact .inl h1
  · exact .inr ⟨b, off, cap, h1, Nat.lt_of_lt_of_le h2 hs.1, fun j z hz => hs.cell (h3 j z hz)⟩

/-- Goroutine 0 stands at a call of Encode. -/
def AtE (X : Nat → Prop) (Y : Nat → Option Obj) (K N C : Nat) (vs : Value) (fr : Frame) (v : World) (gr : Goroutine) (W : World) : Prop :=
  gr = G ((base 7).at ⟨#[vs, .agg #[.int .i64 ((K : Nat) : Int), .int .i64 ((N : Nat) : Int), .int .i64 ((C : Nat) : Int)]] ++ Array.replicate 26 undef, []⟩ [.code enBody]) [fr] ∧ SimT X Y W v

set_option maxHeartbeats 4000000 in
set_option maxRecDepth 100000 in
theorem same_ok {w : World} {vr vo : Value} {k n c : Int} {zr zo : List Int} (hr : Ints w vr zr) (ho : Ints w vo zo) (hlr : zr.length < 9223372036854775807) (hlo : zo.length < 9223372036854775807) (hk : In64 k) (hn : In64 n) (hc : In64 c) (hT : Tab w) :
    Ok Tryd.prog (fun v w' => v = .bool true ∧ Kz w.heap.size w w') (solo (G (Frame.enter Tryd.prog 3 #[vr, .int .i64 k, .int .i64 n, .int .i64 c, vo] .normal) []) w) #[] := by
  have hP := params_ok k n c
  have hN := nOf_le n
  obtain ⟨Y, v, hsim, hcl⟩ := doctorX w (fun _ => False) (fun b h => h.elim)
  have hsub : Sub w v := ⟨by rw [hsim.size]; exact Nat.le_refl _, fun b cc t fr h => hcl b cc t fr (fun x => x) h⟩
  have hsz : w.heap.size = v.heap.size := hsim.size
  have e : Frame.enter Tryd.prog 3 #[vr, .int .i64 k, .int .i64 n, .int .i64 c, vo] .normal = (base 3).at ⟨#[vr, .int .i64 k, .int .i64 n, .int .i64 c, vo] ++ Array.replicate 116 undef, []⟩ [.code saBody] := by
    rw [enter_at _ Tryd.func3 (c := saBody) (by kernel_rfl), show Tryd.f3.ntmps - (#[vr, .int .i64 k, .int .i64 n, .int .i64 c, vo] : Array Value).size = 116 from by rw [Tryd.ntmps3]; rfl]
  rw [e]
  have hB0 : Bes Tryd.prog (ShunX fun _ => False) 0 #[G ((base 3).at ⟨#[vr, .int .i64 k, .int .i64 n, .int .i64 c, vo] ++ Array.replicate 116 undef, []⟩ [.code saBody]) []] w #[] (fun _ => 0) :=
    bes_solo (fun op h => by simp at h) (fun op h => by simp at h) (fun op h => by simp at h) rfl
  refine late (Fin := Ok Tryd.prog _) (Shun := ShunX fun _ => False) (e := 0) ok_pre (fun _ _ _ h => h) (fun gs1 a1 W1 sl1 t1 q1 h01 hst hB1 => ?_) (to_first (Stop := fun gr W => ∃ T m f Dt xs pb vb vt v1, TS pb vb vt T ∧ SmS v.heap.size (kOf k n) (nOf n) (cOf c) m f Dt xs pb vb vt v1 ∧ Bel v.heap.size v v1 ∧ AtE (fun _ => False) Y (kOf k n) (nOf n) (cOf c) vb (fr9 T) v1 gr W) (dokX _) (hr.sub hsub) (ho.sub hsub) hlr hlo hk hn hc (fun T m f Dt xs pb vb vt v1 hT1 hS1 hb1 => into9 (dokX _) hT1 hS1 fun T' hT' z hz => .stop fun d => ⟨T', m, f, Dt, xs, pb, vb, vt, v1, hT', hS1, hb1, rfl, hz.at d⟩) w hsim.t) w.drawn _ none #[] _ rfl hB0
  obtain ⟨T, m, f, Dt, xs, pb, vb, vt, v1, hT1, hS1, hb1, rfl, hs1⟩ := hst W1.drawn
  replace hs1 : SimT (fun _ => False) Y W1 v1 := hs1
  have hz1 := kz_sim hsim.t hs1 hb1 (fun b h => h.elim)
  rw [← hsz] at hz1
  obtain ⟨bo, cap, rfl, hA1⟩ := hS1.pre.args
  have htv := hsub.tab hT
  have ht1 : Tab v1 := htv.bel hb1 htv.1
  refine encode_call ok_pre h01 hB1 hs1 hA1 hP hS1.pre.fits (fun g hR _ => few_ok hS1.pre.hm hS1.pre.len2 hR) ht1 (by omega) ?_
  intro g1 bh1 Wg1 ov1 gs2 W2 sl2 t2 q2 Y2 v2 hR1 hSr1 h02 hB2 hs2 hWg1 hsb2 hkp2 hcl2 hown2
  have hz2 := hkp2.kz (h0 := w.heap.size) (fun b h => h.elim) hz1.size
  have hX1 : ∀ b, (False ∨ b = Wg1) → w.heap.size ≤ b := fun b h => by
    rcases h with h | rfl
    · exact h.elim
    · exact Nat.le_trans hz1.size hWg1
  have hS2 := hS1.sub hsb2
  refine late (Fin := Ok Tryd.prog _) (Shun := ShunX fun b => False ∨ b = Wg1) (e := 0 + nOf n) ok_pre (fun _ _ _ h => h) (fun gs3 a3 W3 sl3 t3 q3 h03 hst3 hB3 => ?_) (into10 (Stop := fun gr W => ∃ T', TS2 pb (.slice bo m cap) vt (.slice (some ⟨bh1, 0, none⟩) (nOf n) (nOf n)) T' ∧ AtE (fun b => False ∨ b = Wg1) Y2 (kOf k n) (nOf n) (cOf c) vt (fr10 T') v2 gr W) (dokX _) hT1 hS2 (fun T' hT' z hz => .stop fun d => ⟨T', hT', rfl, hz.at d⟩) W2 hs2) W2.drawn gs2 sl2 t2 q2 h02 hB2
  obtain ⟨T2, hT2, rfl, hs3⟩ := hst3 W3.drawn
  replace hs3 : SimT (fun b => False ∨ b = Wg1) Y2 W3 v2 := hs3
  have hz3 := kz_sim hs2 hs3 (Bel.refl w.heap.size v2) hX1
  obtain ⟨bo2, cap2, rfl, hA2⟩ := hS2.argt
  have hft := fits_re (hS1.once.rearr f) hS1.pre.fits
  refine encode_call ok_pre h03 hB3 hs3 hA2 hP hft (fun g hR _ => few_ok hS1.pre.hm hS1.pre.len2 ((hS1.once.rearr f).trans hR)) (hsb2.tab ht1) (by omega) ?_
  intro g2 bh2 Wg2 ov2 gs4 W4 sl4 t4 q4 Y4 v4 hR2 hSr2 h04 hB4 hs4 hWg2 hsb4 hkp4 hcl4 hown4
  have hz4 := hkp4.kz (h0 := w.heap.size) hX1 (Nat.le_trans hz1.size (Nat.le_trans hz2.size hz3.size))
  have hX2 : ∀ b, ((False ∨ b = Wg1) ∨ b = Wg2) → w.heap.size ≤ b := fun b h => by
    rcases h with h | rfl
    · exact hX1 b h
    · exact Nat.le_trans hz1.size (Nat.le_trans hz2.size (Nat.le_trans hz3.size hWg2))
  have hS4 := hS2.sub hsb4
  have hgg := sorted_same hS1.pre.fits hR1 ((hS1.once.rearr f).trans hR2) hSr1 hSr2
  rw [names_same hgg, sizes_same hgg, join_same m hgg] at hown4
  have hkz := ((hz1.trans hz2).trans hz3).trans hz4
  have fin : ∀ (T' : Array Value) (kk : List Item) (w' : World), T'.getD 10 undef = .bool true → Bel v.heap.size v4 w' → ReaR Tryd.prog (fun b => (False ∨ b = Wg1) ∨ b = Wg2) Y4 (DM (ShunX fun b => (False ∨ b = Wg1) ∨ b = Wg2)) (fun a u => a.status = .running ∧ ∃ es, (∀ e ∈ es, EvM (ShunX fun b => (False ∨ b = Wg1) ∨ b = Wg2) e) ∧ ∀ d, ∃ y, stepG Tryd.prog true a (u.at d) = .ended (.done y) (u.at d) es ∧ y = .bool true ∧ Kz w.heap.size w (u.at d)) none [] 3 [] (.code .ret :: kk) T' w' := fun T' kk w' h10 hbl => by
    refine reaR_done (dokX _) Tryd.func3 (by kernel_rfl) (y := .bool true) (fun u => ?_) (fun u d hst hend => ?_)
    · rw [Sem.runT_eq, results_tmp (fn := Tryd.f3) (t := 10) rfl _ _ _, events_results_tmp (fn := Tryd.f3) (t := 10) rfl _ _, h10]
    · refine ⟨rfl, #[], by simp, fun d' => ⟨.bool true, hend d', rfl, ?_⟩⟩
      have := kz_sim hs4 hst (hsz ▸ hbl) hX2
      exact hkz.trans ⟨this.os, this.output, this.size, this.block⟩
  refine ok_late h04 hB4 (after10 (dokX _) (L := fun i => shardB (kOf k n) (nOf n) (cOf c) (namesOf m g1) (sizesOf m g1) i (colB (kOf k n) (lenC (kOf k n) (joinD (fun j => dOf Dt (g1 j)) m).length) (joinD (fun j => dOf Dt (g1 j)) m) i)) hT2 hS4 (by omega) ⟨fun i hi => ⟨_, hsb4.cell (hcl2 i hi), holds8_ownB (owns_sub (hown2 i hi) hsb4)⟩⟩ ⟨fun i hi => ⟨_, hcl4 i hi, holds8_ownB (hown4 i hi)⟩⟩ (fun _ T' kk w' h10 he => fin T' kk w' h10 (he.bel _)) (fun hm0 T' bo3 cap3 w' hT3 hA3 hp3 hb3 => ?_) W4 hs4)
  refine at21 (dokX _) hT3 hP hA3 ?_ hp3 fun T5 kk w5 h10 hb5 => fin T5 kk w5 h10 (hb3.trans hb5 ?_)
  · obtain ⟨τ, ht⟩ := hS1.once.at
    obtain ⟨h1, h2⟩ := ht 0 hm0
    refine names_twice (i := τ 0) (j := m) h1 (by omega) ?_
    unfold twice
    rw [if_neg (by omega), if_pos rfl]
    unfold turn
    rw [h2]
  · have a1 := hb1.size'
    have a2 : v1.heap.size ≤ v4.heap.size := Nat.le_trans hsb2.1 hsb4.1
    have a3 := hb3.size'
    omega
#print axioms same_ok
end Go.Proofs.YtkpcmfgeanlcnabDoor

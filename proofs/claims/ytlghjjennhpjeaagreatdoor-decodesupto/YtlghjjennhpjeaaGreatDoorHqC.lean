/-
  One call of coding.Rebuild beside those that leave: through its fork, back to its caller.
-/
import Derived.Test.YtlghjjennhpjeaaGreatDoorDeB
import Derived.Test.YtlghjjennhpjeaaGreatDoorScanB
import Derived.Deep.MidRow
namespace Go.Proofs.YtlghjjennhpjeaaGreatDoor
open Go.RowKit Go.Deep Go.Lf Go.Conc Go.ConcN Go.Gh
open Go.ConcR (Payload WgAt wgBlock)

set_option maxHeartbeats 4000000 in
set_option maxRecDepth 100000 in
theorem rebuild_call {Fin : Machine → Trace → Prop} (hpre : ∀ m m' ops t, stepT Tryz.prog m = (.next m', ops) → Fin m' (t ++ ops) → Fin m t) {X : Nat → Prop} {Y : Nat → Option Obj} {e : Nat} {gs : Array Goroutine} {W v0 : World} {sl : Option (Nat × Nat)} {t : Trace} {qq : Nat → Nat} {fr : Frame} {cs : List Frame} {K M bc oc cap : Nat} {q : CL} {bd od : Nat → Nat} {yv : Nat → Nat → Nat}
    (h0 : gs[0]? = some (G ((base 52).at ⟨#[.int .i64 (K : Int), .slice (some ⟨bc, oc, none⟩) M cap] ++ Array.replicate 67 undef, []⟩ [.code body31]) (fr :: cs))) (hB : Bes Tryz.prog (ShunX X) e gs W t qq) (hs : SimT X Y W v0)
    (hK : 0 < K ∧ K ≤ 128) (hKM : K ≤ M) (hcap : M ≤ cap) (hx : ∀ i, i < K → q.ix i < 128) (hC : CO v0 bc oc K q) (hinj : ∀ i j, i < K → j < K → i ≠ j → q.ix i ≠ q.ix j) (hS : DO v0 K q bd od yv) (hno : ∀ i, i < K → ¬ X (bd i)) (hL : q.L ≤ 65536) (he : e + K < 2147483648)
    (hnext : ∀ (e' : Nat) (σ : Nat → Nat) (B : Nat → Nat → F) (C Wg : Nat) (dN : Nat → Nat) (gs' : Array Goroutine) (W' : World) (sl' : Option (Nat × Nat)) (t' : Trace) (q' : Nat → Nat) (Y' : Nat → Option Obj) (v' : World), e' ≤ e + K → Placed K q.ix σ → (∃ A, F.Gj K (mF K fun s => q.ix (σ s)) K A B) → gs'[0]? = some (G (fr.finish (.slice (some ⟨C, 0, none⟩) K K)) cs) →
      Bes Tryz.prog (ShunX fun b => X b ∨ b = Wg) e' gs' W' t' q' → SimT (fun b => X b ∨ b = Wg) Y' W' v' → W.heap.size ≤ Wg → Sub v0 v' → KpX X W W' →
      (∀ t, t < K → v'.cell? ⟨C, t, none⟩ = some (.slice (some ⟨dN t, 0, none⟩) q.L q.L) ∧ ∀ m, m < q.L → v'.cell? ⟨dN t, m, none⟩ = some (.int .u8 (((xF K B yv σ t m).val : Nat) : Int))) → Fin (crowd gs' W' sl') t') :
    Fin (crowd gs W sl) t := by
  have hs' := hs
  obtain ⟨τ0, dd0, hs0⟩ := hs'
  have hX2 : ∀ b, X b → b < v0.heap.size := fun b hb => hs0.bound b (.inl hb)
  refine late (Fin := Fin) (Shun := ShunX X) (e := e) (Stop := fun gr W => ∃ (σ : Nat → Nat) (bp bdv bD bv h2 ba C : Nat) (b2 : Nat → Nat) (B : Nat → Nat → F) (T : Array Value) (v3 : World), gr = G ((base 52).at ⟨T, []⟩ [.code c12]) (fr :: cs) ∧ SimT X Y W v3 ∧ TPre bp K bdv bv ba T ∧ PF31 K q σ bp bdv bD bv h2 ba C b2 B v3 ∧ (∀ b, b < v0.heap.size → b < C) ∧ (v0.heap.size ≤ bp ∧ v0.heap.size ≤ bdv ∧ v0.heap.size ≤ bD ∧ v0.heap.size ≤ bv ∧ v0.heap.size ≤ h2 ∧ ∀ t, t < K → v0.heap.size ≤ b2 t) ∧ Bel v0.heap.size v0 v3) hpre (fun _ _ _ h => h) (fun gs1 a1 W1 sl1 t1 q1 h01 hst hB1 => ?_)
    (rebuild_gen (dokX X) (cs := fr :: cs) (Y := Y) hK hKM hcap hx hC hinj (fun σ bp bdv bD bv h2 ba C b2 B T w1 a1 a2 a3 a4 a5 w hw => .stop fun dd => ⟨σ, bp, bdv, bD, bv, h2, ba, C, b2, B, T, w1, rfl, hw.at dd, a1, a2, a3, a4, a5⟩) W hs) W.drawn gs sl t qq h0 hB
  obtain ⟨σ, bp, bdv, bD, bv, h2, ba, Cc, b2, B, T, v3, rfl, hW1, hTP, hPF0, hlow, hge, hb30⟩ := hst W1.drawn
  replace hW1 : SimT X Y W1 v3 := hW1
  letI : OldG := ⟨X⟩
  obtain ⟨n1, n2, n3, n4, n5, n6, n7, n8⟩ := hPF0.new
  have hsz1 : W1.heap.size = v3.heap.size := by obtain ⟨_, _, h⟩ := hW1; exact h.size
  have hB1' : Bes Tryz.prog (ShO W1.heap.size) e gs1 W1 t1 q1 := hB1.more (fun l h => .inr h) (fun l h => h.elim (fun ⟨a, ea, ya⟩ => .inr ⟨a, ea, Nat.le_of_eq ya.symm⟩) .inl)
  obtain ⟨T', hTW, hG⟩ := make_groupR (D := DM (ShO W1.heap.size)) (fun n w h => ⟨h, by simp⟩) (cs := fr :: cs) W1 hTP
  refine late (Fin := Fin) (Shun := ShO W1.heap.size) (e := e) hpre (fun _ _ _ h => h) (fun gs2 a2 W2 sl2 t2 q2 h02 hst2 hB2 => ?_) (hG (fun gr w => gr = G ((base 52).at ⟨T', []⟩ [.code rTail]) (fr :: cs) ∧ ∃ dd d', w = ((W1.at dd).alloc (wgBlock link.tWg 0 0)).at d') (fun dd d' => ⟨rfl, dd, d', rfl⟩)) W1.drawn gs1 sl1 t1 q1 h01 hB1'
  obtain ⟨rfl, dd, d', hW2⟩ := hst2 W2.drawn
  replace hW2 : W2 = ((W1.at dd).alloc (wgBlock link.tWg 0 0)).at d' := hW2
  generalize hWg : W1.heap.size = Wg at *
  have hS2 : SimT X Y W2 (v3.alloc (wgBlock link.tWg 0 0)) := by
    rw [hW2]
    exact (SimT.alloc (o := wgBlock link.tWg 0 0) (hW1.at dd) (by unfold wgBlock; trivial)).at d'
  have hz2 : W2.heap.size = Wg + 1 := by rw [hW2]; simp [World.at, hWg]
  have hg2 : W2.heap[Wg]? = some (wgBlock link.tWg 0 0) := by
    rw [hW2, ← hWg]
    exact heap_alloc_new (W1.at dd) _
  have hl2 : ∀ b, b < Wg → W2.heap[b]? = W1.heap[b]? := fun b hb => by
    rw [hW2]
    exact Below.heap_alloc (W1.at dd) _ b (by rw [← hWg] at hb; exact hb)
  obtain ⟨τ2, dd2, hsim⟩ := hS2
  have hPF := (hPF0.alloc (wgBlock link.tWg 0 0)).tp τ2 dd2
  have hb3 : Bel v0.heap.size v0 { v3.alloc (wgBlock link.tWg 0 0) with tape := τ2, drawn := dd2 } := (hb30.trans (Bel.of ((Below.refl v3.heap.size v3).alloc (Nat.le_refl _) _)) hb30.size').tp τ2 dd2
  generalize ({ v3.alloc (wgBlock link.tWg 0 0) with tape := τ2, drawn := dd2 } : World) = v4 at hsim hPF hb3
  letI : Payload := ⟨24⟩
  letI : Out0 := ⟨W2.output, W2.os⟩
  have hEok : EnvOk (envS K q.L q σ bd od yv bp bdv bD bv h2 ba b2 B (fun b => W2.heap[b]?)) K q.L := envS_ok hK (by omega) (fun t ht => hx _ (hPF0.pl.lt t ht)) hS.yl
  have hSF := sf_start (lw := v0.heap.size) (L := q.L) rfl hX2 hX2 hge hsim hS hno rfl hb3 hlow hPF hz2 (by omega)
  have hSp := sp_start (cs := fr :: cs) hEok (hTW _ rfl rfl rfl rfl rfl rfl) hSF
  have hmis := misN_le (envS K q.L q σ bd od yv bp bdv bD bv h2 ba b2 B (fun b => W2.heap[b]?)) K 0
  refine fork_at (Fin := Fin) (ty := link.tWg) hpre h02 hB2 (fun b hb => ?_) (Nat.lt_succ_self _) (by omega) (by omega) (by omega) hg2 hSF.pay hSp ⟨fun _ _ _ _ r h => WPr.rely h r, fun _ _ _ _ r h => KR.rely h r⟩ (by omega) rfl rfl (fun ids gs3 a3 W3 lb sl3 t3 q3 h03 ho hos hwk hK3 hp hres hB3 => ?_)
  · have := hX2 b hb
    have := hlow b this
    omega
  obtain ⟨T1, s0, j, ops, rfl, hTS, hSF', hids⟩ := hK3
  have std : ∀ b, b < Wg → b ≠ Cc → W3.heap[b]? = W2.heap[b]? := fun b hb hc => hSF'.low.std b (by omega) (by omega) hc
  have hXC : ∀ b, X b → b < Wg ∧ b ≠ Cc := fun b hb => by
    have h1 := hX2 b hb
    have := hlow b h1
    omega
  obtain ⟨Y', v', hs3, hk'⟩ := doctorX W3 (fun b => X b ∨ b = Wg) (fun b hb => by
    rcases hb with hb | rfl
    · obtain ⟨cs', t', fr', h1, h2⟩ := hsim.doc b hb
      obtain rfl := hsim.unf b _ _ _ hb h2
      exact ⟨cs', t', (std b (hXC b hb).1 (hXC b hb).2).trans h1⟩
    · obtain ⟨st, sm, hw⟩ := hwk
      exact ⟨_, _, hw⟩)
  obtain ⟨⟨dN, hd⟩, hba⟩ := suf_of hsim hz2 (by omega) hK hx hS hlow hPF hk' hX2 hSF' hids hres
  have hblk : ∀ {b : Nat} {c : Array Value} {ty : TypeId} {fz : Nat × Nat}, v0.heap[b]? = some (.cells c ty fz) → v'.heap[b]? = some (.cells c ty fz) := fun {b c ty fz} h => by
    have h1 : b < v0.heap.size := (Array.getElem?_eq_some_iff.1 h).1
    have h2 := hlow b h1
    have h3 : v4.heap[b]? = some (.cells c ty fz) := (hb3.blk h1).trans h
    by_cases hx : X b
    · obtain ⟨c1, t1, f1, e1, e2⟩ := hsim.doc b hx
      obtain ⟨c2, t2, f2, e3, e4⟩ := hs3.doc b (.inl hx)
      rw [std b (by omega) (by omega), e1] at e3
      rw [e2] at h3
      cases e3
      cases h3
      exact e4
    · exact hk' b c ty fz (fun hh => hh.elim hx (by omega)) ((std b (by omega) (by omega)).trans (sim_blockX hsim hx h3))
  have e1 : v'.heap.size = W3.heap.size := hs3.size.symm
  have e2 : Wg + 1 ≤ W3.heap.size := Nat.le_trans hSF'.sb.2.1 hSF'.sb.2.2
  have hw2v : v0.heap.size ≤ v3.heap.size := hb30.size'
  have hD' : Dok (fun b => X b ∨ b = Wg) (DM (ShO Wg)) := dok_dm fun l h => h.elim (fun ⟨a, ea, ya⟩ => ⟨a, ea, .inr ya⟩) (fun ⟨a, ea, ya⟩ => ⟨a, ea, .inl ya⟩)
  refine late (Fin := Fin) (Shun := ShO Wg) (e := e + misN (envS K q.L q σ bd od yv bp bdv bD bv h2 ba b2 B (fun b => W2.heap[b]?)) 0 K) (Stop := fun gr w => gr = G (fr.finish (.slice (some ⟨Cc, 0, none⟩) K K)) cs ∧ SimT (fun b => X b ∨ b = Wg) Y' w v') hpre (fun _ _ _ h => h) (fun gs4 a4 W4 sl4 t4 q4 h04 hst4 hB4 => ?_) (back31 (X := fun b => X b ∨ b = Wg) (Y := Y') hD' hTS hba (fun τ dd w1 hw1 => .stop fun d6 => ⟨rfl, hw1.at d6⟩) W3 hs3.t) W3.drawn gs3 sl3 t3 q3 h03 hB3
  obtain ⟨rfl, hs5⟩ := hst4 W4.drawn
  replace hs5 : SimT (fun b => X b ∨ b = Wg) Y' W4 v' := hs5
  refine hnext _ σ B Cc Wg dN gs4 W4 sl4 t4 q4 Y' v' (by omega) hPF0.pl hPF0.gj h04 (hB4.more (fun l h => h.elim (fun ⟨a, ea, ya⟩ => ⟨a, ea, .inr ya⟩) (fun ⟨a, ea, ya⟩ => ⟨a, ea, .inl ya⟩)) (fun l ⟨a, ea, ya⟩ => .inl (ya.elim (fun y => .inr ⟨a, ea, y⟩) (fun y => .inl ⟨a, ea, y⟩)))) hs5 ?_ ⟨by omega, fun b c ty fz hx => hblk hx⟩ ?_ hd
  · have : W.heap.size = v0.heap.size := hs0.size
    omega
  · have hz0 : W.heap.size = v0.heap.size := hs0.size
    obtain ⟨τ5, d5, hs5'⟩ := hs5
    obtain ⟨τ1, d1, hs1'⟩ := hW1
    have z5 : W4.heap.size = v'.heap.size := hs5'.size
    refine ⟨?_, ?_, by omega, fun b hb hx => ?_⟩
    · have o1 : W4.os = v'.os := hs5'.os
      have o3 : W3.os = v'.os := hs3.os
      have o4 : W3.os = W2.os := hos
      have o5 : W2.os = W1.os := by rw [hW2]; rfl
      have o6 : W1.os = v3.os := hs1'.os
      have o7 : v3.os = v0.os := hb30.os
      have o10 : W.os = v0.os := hs0.os
      rw [o1, ← o3, o4, o5, o6, o7, o10]
    · have o1 : W4.output = v'.output := hs5'.out
      have o3 : W3.output = v'.output := hs3.out
      have o4 : W3.output = W2.output := ho
      have o5 : W2.output = W1.output := by rw [hW2]; rfl
      have o6 : W1.output = v3.output := hs1'.out
      have o7 : v3.output = v0.output := hb30.output
      have o10 : W.output = v0.output := hs0.out
      rw [o1, ← o3, o4, o5, o6, o7, o10]
    · have hbC := hlow b (by omega)
      have a1 : W4.heap[b]? = W3.heap[b]? := Sim.agree hs3 hs5' (fun hh => hh.elim hx (by omega)) rfl
      have a2 := std b (by omega) (by omega)
      have a3 := hl2 b (by omega)
      have a4 : W1.heap[b]? = W.heap[b]? := Sim.agree hs0 hs1' hx (hb30.blk (by omega))
      rw [a1, a2, a3, a4]
end Go.Proofs.YtlghjjennhpjeaaGreatDoor

/-
  One call of coding.Columns beside those that leave: through its fork, back to its caller.
-/
namespace Go.Proofs.YtlghjjennhpjeaaGreatDoor
open Go.RowKit Go.Deep Go.Lf Go.Conc Go.ConcN Go.Gh
open Go.ConcR (Payload WgAt wgBlock)

set_option maxHeartbeats 4000000 in
set_option maxRecDepth 100000 in
theorem columns_call {Fin : Machine → Trace → Prop} (hpre : ∀ m m' ops t, stepT Tryz.prog m = (.next m', ops) → Fin m' (t ++ ops) → Fin m t) {X : Nat → Prop} {Y : Nat → Option Obj} {e : Nat} {gs : Array Goroutine} {W v0 : World} {sl : Option (Nat × Nat)} {t : Trace} {qq : Nat → Nat} {fr : Frame} {cs : List Frame} {K N : Nat} {l : List UInt8} {vd : Value}
    (h0 : gs[0]? = some (G ((base 53).at ⟨#[.int .i64 ((K : Nat) : Int), .int .i64 ((N : Nat) : Int), vd] ++ Array.replicate 23 undef, []⟩ [.code gBody]) (fr :: cs))) (hB : Bes Tryz.prog (ShunX X) e gs W t qq) (hs : SimT X Y W v0)
    (hk0 : 1 ≤ K) (hkn : K ≤ N) (hn : N ≤ 128) (hjl : l.length ≤ 65536) (hv : Lies v0 vd (u8V l)) (he : e + N < 2147483648)
    (hnext : ∀ (C Wg : Nat) (dN : Nat → Nat) (gs' : Array Goroutine) (W' : World) (sl' : Option (Nat × Nat)) (t' : Trace) (q' : Nat → Nat) (Y' : Nat → Option Obj) (v' : World), gs'[0]? = some (G (fr.finish (.slice (some ⟨C, 0, none⟩) N N)) cs) →
      Bes Tryz.prog (ShunX fun b => X b ∨ b = Wg) (e + N) gs' W' t' q' → SimT (fun b => X b ∨ b = Wg) Y' W' v' → W.heap.size ≤ Wg → v0.heap.size ≤ C → Sub v0 v' → KpX X W W' →
      (∀ t, t < N → v'.cell? ⟨C, t, none⟩ = some (.slice (some ⟨dN t, 0, none⟩) (lenC K l.length) (lenC K l.length)) ∧ v'.heap[dN t]? = some (.cells (u8V (colB K (lenC K l.length) l t)).toArray 5)) → Fin (crowd gs' W' sl') t') :
    Fin (crowd gs W sl) t := by
  have hs' := hs
  obtain ⟨τ0, dd0, hs0⟩ := hs'
  have hX2 : ∀ b, X b → b < v0.heap.size := fun b hb => hs0.bound b (.inl hb)
  refine late (Fin := Fin) (Shun := ShunX X) (e := e) (Stop := fun gr W => ∃ (bk bd Pp Ff ba C : Nat) (T : Array Value) (v3 : World), gr = G ((base 53).at ⟨T, []⟩ [.code gc3]) (fr :: cs) ∧ SimT X Y W v3 ∧ TPc bk bd ba T ∧ PFc K N (lenC K l.length) l bk bd Pp Ff ba C v3 ∧ (∀ b, b < v0.heap.size → b < C) ∧ (v0.heap.size ≤ bk ∧ v0.heap.size ≤ bd ∧ v0.heap.size ≤ Pp ∧ v0.heap.size ≤ Ff) ∧ Bel v0.heap.size v0 v3) hpre (fun _ _ _ h => h) (fun gs1 a1 W1 sl1 t1 q1 h01 hst hB1 => ?_)
    (columns_pre (dokX X) (cs := fr :: cs) (Y := Y) hk0 hkn hn hjl hv (fun bk bd Pp Ff ba C T w1 a1 a2 a3 a4 a5 w hw => .stop fun dd => ⟨bk, bd, Pp, Ff, ba, C, T, w1, rfl, hw.at dd, a1, a2, a3, a4, a5⟩) W hs) W.drawn gs sl t qq h0 hB
  obtain ⟨bk, bd, Pp, Ff, ba, Cc, T, v3, rfl, hW1, hTP, hPF0, hlow, hge, hb30⟩ := hst W1.drawn
  replace hW1 : SimT X Y W1 v3 := hW1
  letI : OldG := ⟨X⟩
  obtain ⟨n1, n2, n3, n4, n5, n6⟩ := hPF0.new
  have hsz1 : W1.heap.size = v3.heap.size := by obtain ⟨_, _, h⟩ := hW1; exact h.size
  have hB1' : Bes Tryz.prog (ShO W1.heap.size) e gs1 W1 t1 q1 := hB1.more (fun l h => .inr h) (fun l h => h.elim (fun ⟨a, ea, ya⟩ => .inr ⟨a, ea, Nat.le_of_eq ya.symm⟩) .inl)
  obtain ⟨T', hTW, hG⟩ := make_group (D := DM (ShO W1.heap.size)) (fun n w h => ⟨h, by simp⟩) (cs := fr :: cs) W1 hTP
  refine late (Fin := Fin) (Shun := ShO W1.heap.size) (e := e) hpre (fun _ _ _ h => h) (fun gs2 a2 W2 sl2 t2 q2 h02 hst2 hB2 => ?_) (hG (fun gr w => gr = G ((base 53).at ⟨T', []⟩ [.code gTail]) (fr :: cs) ∧ ∃ dd d', w = ((W1.at dd).alloc (wgBlock link.tWg 0 0)).at d') (fun dd d' => ⟨rfl, dd, d', rfl⟩)) W1.drawn gs1 sl1 t1 q1 h01 hB1'
  obtain ⟨rfl, dd, d', hW2⟩ := hst2 W2.drawn
  replace hW2 : W2 = ((W1.at dd).alloc (wgBlock link.tWg 0 0)).at d' := hW2
  generalize hWg : W1.heap.size = Wg at *
  have hS2 : SimT X Y W2 (v3.alloc (wgBlock link.tWg 0 0)) := by
    rw [hW2]
    exact (SimT.alloc (o := wgBlock link.tWg 0 0) (hW1.at dd) (by unfold wgBlock; trivial)).at d'
  have hz2 : W2.heap.size = Wg + 1 := by rw [hW2]; simp [World.at, hWg]
  have hg2 : W2.heap[Wg]? = some (wgBlock link.tWg 0 0) := by
    rw [hW2, ← hWg]
    exact heap_alloc_new (W1.at dd) _
  have hl2 : ∀ b, b < Wg → W2.heap[b]? = W1.heap[b]? := fun b hb => by
    rw [hW2]
    exact Below.heap_alloc (W1.at dd) _ b (by rw [← hWg] at hb; exact hb)
  obtain ⟨τ2, dd2, hsim⟩ := hS2
  have hPF := (hPF0.alloc (wgBlock link.tWg 0 0)).tp τ2 dd2
  have hb3 : Bel v0.heap.size v0 { v3.alloc (wgBlock link.tWg 0 0) with tape := τ2, drawn := dd2 } := (hb30.trans (Bel.of ((Below.refl v3.heap.size v3).alloc (Nat.le_refl _) _)) hb30.size').tp τ2 dd2
  generalize ({ v3.alloc (wgBlock link.tWg 0 0) with tape := τ2, drawn := dd2 } : World) = v4 at hsim hPF hb3
  letI : Payload := ⟨24⟩
  letI : Out0 := ⟨W2.output, W2.os⟩
  have hLb := lenC_le (k := K) (by omega) l.length
  have hEok : EnvCOk (envK K (lenC K l.length) l bk bd Pp Ff ba (fun b => W2.heap[b]?)) K N (lenC K l.length) := envK_ok (by omega) (by omega) (by omega)
  have hSF := sfc_start (lw := v0.heap.size) rfl hX2 hX2 hge hsim hPF hz2 (by omega)
  have hSp := spc_start (cs := fr :: cs) hEok (hTW _ rfl rfl rfl) hSF
  refine fork_at (Fin := Fin) (ty := link.tWg) hpre h02 hB2 (fun b hb => ?_) (Nat.lt_succ_self _) (by omega) (by omega) (by omega) hg2 hSF.pay hSp ⟨fun _ _ _ _ r h => WPr.rely h r, fun _ _ _ _ r h => KC.rely h r⟩ he rfl rfl (fun ids gs3 a3 W3 lb sl3 t3 q3 h03 ho hos hwk hK3 hp hres hB3 => ?_)
  · have := hX2 b hb
    have := hlow b this
    omega
  obtain ⟨T1, s0, j, ops, rfl, hTS, hSF', hids⟩ := hK3
  have std : ∀ b, b < Wg → b ≠ Cc → W3.heap[b]? = W2.heap[b]? := fun b hb hc => hSF'.low.std b (by omega) (by omega) hc
  have hXC : ∀ b, X b → b < Wg ∧ b ≠ Cc := fun b hb => by
    have h1 := hX2 b hb
    have := hlow b h1
    omega
  obtain ⟨Y', v', hs3, hk'⟩ := doctorX W3 (fun b => X b ∨ b = Wg) (fun b hb => by
    rcases hb with hb | rfl
    · obtain ⟨cs', t', fr', h1, h2⟩ := hsim.doc b hb
      obtain rfl := hsim.unf b _ _ _ hb h2
      exact ⟨cs', t', (std b (hXC b hb).1 (hXC b hb).2).trans h1⟩
    · obtain ⟨st, sm, hw⟩ := hwk
      exact ⟨_, _, hw⟩)
  obtain ⟨⟨dN, hd⟩, _, hba⟩ := sufc_of hsim hz2 (by omega) hb3 hlow hPF hk' hX2 hSF' hids hres
  have hblk : ∀ {b : Nat} {c : Array Value} {ty : TypeId} {fz : Nat × Nat}, v0.heap[b]? = some (.cells c ty fz) → v'.heap[b]? = some (.cells c ty fz) := fun {b c ty fz} h => by
    have h1 : b < v0.heap.size := (Array.getElem?_eq_some_iff.1 h).1
    have h2 := hlow b h1
    have h3 : v4.heap[b]? = some (.cells c ty fz) := (hb3.blk h1).trans h
    by_cases hx : X b
    · obtain ⟨c1, t1, f1, e1, e2⟩ := hsim.doc b hx
      obtain ⟨c2, t2, f2, e3, e4⟩ := hs3.doc b (.inl hx)
      rw [std b (by omega) (by omega), e1] at e3
      rw [e2] at h3
      cases e3
      cases h3
      exact e4
    · exact hk' b c ty fz (fun hh => hh.elim hx (by omega)) ((std b (by omega) (by omega)).trans (sim_blockX hsim hx h3))
  have e1 : v'.heap.size = W3.heap.size := hs3.size.symm
  have e2 : Wg + 1 ≤ W3.heap.size := Nat.le_trans hSF'.sb.2.1 hSF'.sb.2.2
  have hw2v : v0.heap.size ≤ v3.heap.size := hb30.size'
  have hD' : Dok (fun b => X b ∨ b = Wg) (DM (ShO Wg)) := dok_dm fun l h => h.elim (fun ⟨a, ea, ya⟩ => ⟨a, ea, .inr ya⟩) (fun ⟨a, ea, ya⟩ => ⟨a, ea, .inl ya⟩)
  refine late (Fin := Fin) (Shun := ShO Wg) (e := e + N) (Stop := fun gr w => gr = G (fr.finish (.slice (some ⟨Cc, 0, none⟩) N N)) cs ∧ SimT (fun b => X b ∨ b = Wg) Y' w v') hpre (fun _ _ _ h => h) (fun gs4 a4 W4 sl4 t4 q4 h04 hst4 hB4 => ?_) (backC (X := fun b => X b ∨ b = Wg) (Y := Y') hD' hTS hba (fun τ dd w1 hw1 => .stop fun d6 => ⟨rfl, hw1.at d6⟩) W3 hs3.t) W3.drawn gs3 sl3 t3 q3 h03 hB3
  obtain ⟨rfl, hs5⟩ := hst4 W4.drawn
  replace hs5 : SimT (fun b => X b ∨ b = Wg) Y' W4 v' := hs5
  refine hnext Cc Wg dN gs4 W4 sl4 t4 q4 Y' v' h04 (hB4.more (fun l h => h.elim (fun ⟨a, ea, ya⟩ => ⟨a, ea, .inr ya⟩) (fun ⟨a, ea, ya⟩ => ⟨a, ea, .inl ya⟩)) (fun l ⟨a, ea, ya⟩ => .inl (ya.elim (fun y => .inr ⟨a, ea, y⟩) (fun y => .inl ⟨a, ea, y⟩)))) hs5 ?_ ?_ ⟨by omega, fun b c ty fz hx => hblk hx⟩ ?_ (fun t ht => ⟨(hd t ht).1, by rw [← bytes_res]; exact (hd t ht).2⟩)
  · have : W.heap.size = v0.heap.size := hs0.size
    omega
  · rcases Nat.eq_zero_or_pos v0.heap.size with h | h
    · omega
    · have := hlow (v0.heap.size - 1) (by omega)
      omega
  · have hz0 : W.heap.size = v0.heap.size := hs0.size
    obtain ⟨τ5, d5, hs5'⟩ := hs5
    obtain ⟨τ1, d1, hs1'⟩ := hW1
    have z5 : W4.heap.size = v'.heap.size := hs5'.size
    refine ⟨?_, ?_, by omega, fun b hb hx => ?_⟩
    · have o1 : W4.os = v'.os := hs5'.os
      have o3 : W3.os = v'.os := hs3.os
      have o4 : W3.os = W2.os := hos
      have o5 : W2.os = W1.os := by rw [hW2]; rfl
      have o6 : W1.os = v3.os := hs1'.os
      have o7 : v3.os = v0.os := hb30.os
      have o10 : W.os = v0.os := hs0.os
      rw [o1, ← o3, o4, o5, o6, o7, o10]
    · have o1 : W4.output = v'.output := hs5'.out
      have o3 : W3.output = v'.output := hs3.out
      have o4 : W3.output = W2.output := ho
      have o5 : W2.output = W1.output := by rw [hW2]; rfl
      have o6 : W1.output = v3.output := hs1'.out
      have o7 : v3.output = v0.output := hb30.output
      have o10 : W.output = v0.output := hs0.out
      rw [o1, ← o3, o4, o5, o6, o7, o10]
    · have hbC := hlow b (by omega)
      have a1 : W4.heap[b]? = W3.heap[b]? := Sim.agree hs3 hs5' (fun hh => hh.elim hx (by omega)) rfl
      have a2 := std b (by omega) (by omega)
      have a3 := hl2 b (by omega)
      have a4 : W1.heap[b]? = W.heap[b]? := Sim.agree hs0 hs1' hx (hb30.blk (by omega))
      rw [a1, a2, a3, a4]
end Go.Proofs.YtlghjjennhpjeaaGreatDoor

/-
  Lists of entries of one size in memory; the heap by numbers: which of two is lesser, two change places.
-/
namespace Go.Proofs.YtlghjjennhpjeaaGreatDoor
open Go.RowKit Go.Deep Go.Hp

section
variable {c : Ent → List Value} {s : Nat}
def rowsL (c : Ent → List Value) (n : Nat) (f : Nat → Ent) : List Value := (List.range n).flatMap fun i => c (f i)
theorem rowsL_succ (n : Nat) (f : Nat → Ent) : rowsL c (n + 1) f = rowsL c n f ++ c (f n) := by
  unfold rowsL
  rw [List.range_succ, List.flatMap_append]
  simp
theorem rowsL_length (hc : ∀ e, (c e).length = s) (n : Nat) (f : Nat → Ent) : (rowsL c n f).length = n * s := by
  induction n with
  | zero => simp [rowsL]
  | succ n ih => rw [rowsL_succ, List.length_append, ih, hc, Nat.succ_mul]
theorem rowsL_get (hc : ∀ e, (c e).length = s) {n i p : Nat} (f : Nat → Ent) (hi : i < n) (hp : p < s) : (rowsL c n f)[i * s + p]? = (c (f i))[p]? := by
  induction n with
  | zero => omega
  | succ n ih =>
    rw [rowsL_succ]
    by_cases e : i = n
    · subst e
      rw [List.getElem?_append_right (by rw [rowsL_length hc]; omega), rowsL_length hc, Nat.add_sub_cancel_left]
    · have : i * s + s ≤ n * s := by rw [← Nat.succ_mul]; exact Nat.mul_le_mul_right s (by omega)
      rw [List.getElem?_append_left (by rw [rowsL_length hc]; omega), ih (by omega)]
theorem rowsL_congr {n : Nat} {f g : Nat → Ent} (h : ∀ i, i < n → f i = g i) : rowsL c n f = rowsL c n g := by
  induction n with
  | zero => rfl
  | succ n ih => rw [rowsL_succ, rowsL_succ, ih fun i hi => h i (by omega), h n (by omega)]
/-- Many cells of a list are set. -/
def setL (xs : List Value) (p : Nat) : List Value → List Value
  | [] => xs
  | v :: r => setL (xs.set p v) (p + 1) r
theorem setL_get : ∀ (vs xs : List Value) (p m : Nat), p + vs.length ≤ xs.length → (setL xs p vs)[m]? = if p ≤ m ∧ m < p + vs.length then vs[m - p]? else xs[m]?
  | [], xs, p, m, _ => by rw [setL, if_neg (by simp)]
  | v :: r, xs, p, m, h => by
    simp only [List.length_cons] at h ⊢
    rw [setL, setL_get r _ _ _ (by rw [List.length_set]; omega)]
    by_cases e : m = p
    · subst e
      rw [if_neg (by omega), if_pos (by omega), List.getElem?_set, if_pos rfl, if_pos (by omega), Nat.sub_self]
      rfl
    · by_cases e2 : p ≤ m ∧ m < p + (r.length + 1)
      · rw [if_pos (by omega), if_pos e2, show m - p = (m - (p + 1)) + 1 by omega]
        rfl
      · rw [if_neg (by omega), if_neg e2, List.getElem?_set_ne (fun x => e x.symm)]
theorem rowsL_set (hc : ∀ e, (c e).length = s) {n i : Nat} (f : Nat → Ent) (hi : i < n) (e : Ent) : setL (rowsL c n f) (i * s) (c e) = rowsL c n (fun x => if x = i then e else f x) := by
  have hle : i * s + s ≤ n * s := by rw [← Nat.succ_mul]; exact Nat.mul_le_mul_right s hi
  apply List.ext_getElem?
  intro m
  rw [setL_get _ _ _ _ (by rw [hc, rowsL_length hc]; exact hle), hc]
  by_cases hm : m < n * s
  · have hs : 0 < s := Nat.pos_of_ne_zero fun e => by rw [e] at hm; simp at hm
    have hq : m = m / s * s + m % s := by rw [Nat.mul_comm]; exact (Nat.div_add_mod m s).symm
    have hp := Nat.mod_lt m hs
    have hqn : m / s < n := (Nat.div_lt_iff_lt_mul hs).2 hm
    generalize m / s = q at *
    generalize m % s = p at *
    subst hq
    rw [rowsL_get hc f hqn hp, rowsL_get hc _ hqn hp]
    by_cases e1 : q = i
    · subst e1
      rw [if_pos ⟨by omega, by omega⟩, if_pos rfl, Nat.add_sub_cancel_left]
    · rw [if_neg, if_neg e1]
      rintro ⟨h1, h2⟩
      rcases Nat.lt_or_gt_of_ne e1 with h | h
      · have : q * s + s ≤ i * s := by rw [← Nat.succ_mul]; exact Nat.mul_le_mul_right s h
        omega
      · have : i * s + s ≤ q * s := by rw [← Nat.succ_mul]; exact Nat.mul_le_mul_right s h
        omega
  · rw [if_neg (by omega), List.getElem?_eq_none (by rw [rowsL_length hc]; omega), List.getElem?_eq_none (by rw [rowsL_length hc]; omega)]
theorem own_cells {B t s g cap n : Nat} : ∀ (vs : List Value) (p : Nat) (xs : List Value) (w : World), w.ownsRow B t s (.slice (some ⟨g, 0, none⟩) n cap) n xs → (w.setCells g p vs).ownsRow B t s (.slice (some ⟨g, 0, none⟩) n cap) n (setL xs p vs)
  | [], _, _, _, h => h
  | v :: r, p, _, _, h => own_cells r (p + 1) _ _ (h.stored p v).1
theorem own_there {w : World} {B t s g cap n : Nat} {xs : List Value} (h : w.ownsRow B t s (.slice (some ⟨g, 0, none⟩) n cap) n xs) {o m : Nat} (ho : o + m ≤ n * s) : w.there g o m := fun j hj => ⟨by rw [h.cellAt (o + j) (by omega), List.getElem?_eq_getElem (by rw [h.1]; omega)]; rfl, h.frozenAt _⟩
theorem own_range (hc : ∀ e, (c e).length = s) {w : World} {B t g cap n i : Nat} {f : Nat → Ent} (h : w.ownsRow B t s (.slice (some ⟨g, 0, none⟩) n cap) n (rowsL c n f)) (hi : i < n) : w.rangeAt g (i * s) (c (f i)) := fun j v hv => by
  have hj := (List.getElem?_eq_some_iff.1 hv).1
  rw [hc] at hj
  have : i * s + s ≤ n * s := by rw [← Nat.succ_mul]; exact Nat.mul_le_mul_right s hi
  rw [h.cellAt _ (by omega), rowsL_get hc _ hi hj]
  exact hv
end

/-- A key that is a number, and what goes with it. -/
def ekey (e : Ent) : Nat := (e.k.headD 0).toNat
def Sg (n : Nat) (f : Nat → Ent) : Prop := ∀ i, i < n → ∃ b, (f i).k = [b]
theorem Sg.rearr {n : Nat} {f g : Nat → Ent} (h : Sg n f) (r : Rearr n f g) : Sg n g := fun i hi => by
  obtain ⟨j, hj, e⟩ := r.from hi
  rw [e]
  exact h j hj
theorem lt_key {e e' : Ent} (h : ∃ b, e.k = [b]) (h' : ∃ b, e'.k = [b]) : Hp.lt e.k e'.k = decide (((ekey e : Nat) : Int) < ((ekey e' : Nat) : Int)) := by
  obtain ⟨a, ha⟩ := h
  obtain ⟨b, hb⟩ := h'
  simp only [ekey, ha, hb, List.headD_cons, Hp.lt, Op.bytesLess, Bool.and_false, Bool.or_false, Int.ofNat_lt, UInt8.lt_iff_toNat_lt]

/-- What a shard's struct holds, by its number: seven cells. -/
structure ShOk (S : Nat → List Value) : Prop where
  len : ∀ i, (S i).length = 7
  one : ∀ i, ∀ u ∈ S i, u.oneCell' = true
def entD (S : Nat → List Value) (e : Ent) : List Value := .int .i64 ((ekey e : Nat) : Int) :: S e.l
theorem entD_length {S : Nat → List Value} (h : ShOk S) (e : Ent) : (entD S e).length = 8 := by simp [entD, h.len]
theorem entD_one {S : Nat → List Value} (h : ShOk S) (e : Ent) : ∀ u ∈ entD S e, u.oneCell' = true := by
  intro u hu
  rcases List.mem_cons.1 hu with rfl | hu
  · rfl
  · exact h.one _ u hu
theorem Tryz.sizeEnt : (Tryz.prog.info? 144).map (·.size) = some 8 := by kernel_rfl

/-- The heap where it lies. -/
structure HI (S : Nat → List Value) (B h n : Nat) (f : Nat → Ent) (v : Value) (w : World) : Prop where
  var : w.rowIs h 112 1 (fun _ => v)
  own : w.ownsRow B 144 8 v n (rowsL (entD S) n f)
  low : h < B
  sg : Sg n f
section
variable {S : Nat → List Value} {B h n : Nat} {f : Nat → Ent} {v : Value} {w : World}
theorem HI.form (H : HI S B h n f v w) (hn : 0 < n) : ∃ g cap, v = .slice (some ⟨g, 0, none⟩) n cap ∧ B ≤ g ∧ n ≤ cap ∧ cap ≤ maxLen := by
  rcases H.own.2 with ⟨_, rfl⟩ | ⟨g, cap, cur, h1, h2, h3, h4, h5, _⟩
  · omega
  · exact ⟨g, cap, h1, h2, h4, h5⟩
theorem HI.slice (H : HI S B h n f v w) : ∃ bo cap, v = .slice bo n cap := by
  rcases H.own.2 with ⟨rfl, rfl⟩ | ⟨g, cap, _, rfl, _⟩ <;> exact ⟨_, _, rfl⟩
theorem HI.key (hS : ShOk S) {g cap : Nat} (H : HI S B h n f (.slice (some ⟨g, 0, none⟩) n cap) w) {i : Nat} (hi : i < n) : w.cell? ⟨g, i * 8, none⟩ = some (.int .i64 ((ekey (f i) : Nat) : Int)) := own_range (entD_length hS) H.own hi 0 _ rfl
theorem HI.drew (H : HI S B h n f v w) (m : Nat) : HI S B h n f v (w.drewN m) := ⟨H.var, H.own, H.low, H.sg⟩

set_option maxHeartbeats 2000000 in
set_option maxRecDepth 100000 in
theorem lesserI_any (hS : ShOk S) (B h n i j : Nat) (f : Nat → Ent) (v : Value) (w : World) (H : HI S B h n f v w) (hij : j < n → i < n) (hj : j < 4611686018427387904) :
    Calls Tryz.prog 92 #[.pointer (some ⟨h, 0, none⟩), .int .i64 ((i : Nat) : Int), .int .i64 ((j : Nat) : Int)] w fun e w' => e = .returned (.int .i64 ((lsr n f i j : Nat) : Int)) ∧ ∃ m, w' = w.drewN m := by
  have a0 := H.var.cell (i := 0) (by omega)
  by_cases hjn : j < n
  · obtain ⟨g, cap, rfl, hg, hnc, hcm⟩ := H.form (by omega)
    have hd : decide ((j : Int) < (n : Int)) = true := by simp; omega
    have hj' : (j : Int) < (n : Int) := by omega
    have hi' : (i : Int) < (n : Int) := by have := hij hjn; omega
    have cj := H.key hS hjn
    have ci := H.key hS (hij hjn)
    have hq := lt_key (H.sg j hjn) (H.sg i (hij hjn))
    have hr : lsr n f i j = if Hp.lt (f j).k (f i).k then j else i := by unfold lsr; simp [hjn]
    rw [hr, hq]
    clear H hij hr hq
    by_cases hk : ((ekey (f j) : Nat) : Int) < ((ekey (f i) : Nat) : Int)
    · have hk' : decide (((ekey (f j) : Nat) : Int) < ((ekey (f i) : Nat) : Int)) = true := decide_eq_true hk
      rw [hk', if_pos rfl]
      go_enter Tryz.func92, Tryz.ntmps92
      go_wp2_with fail
      go_big_quiet (fail)
      go_wp2
      go_ret
      exact ⟨rfl, nq, rfl⟩
    · have hk' : decide (((ekey (f j) : Nat) : Int) < ((ekey (f i) : Nat) : Int)) = false := decide_eq_false hk
      rw [hk', if_neg (by simp)]
      go_enter Tryz.func92, Tryz.ntmps92
      go_wp2_with fail
      go_big_quiet (fail)
      go_wp2
      go_ret
      exact ⟨rfl, nq, rfl⟩
  · have hr : lsr n f i j = i := by unfold lsr; rw [if_neg (fun x => hjn x.1)]
    rw [hr]
    have hd : decide ((j : Int) < (n : Int)) = false := by simp; omega
    obtain ⟨bo, cap, rfl⟩ := H.slice
    clear H hij
    go_enter Tryz.func92, Tryz.ntmps92
    go_wp2_with fail
    go_big_quiet (fail)
    go_wp2
    go_ret
    exact ⟨rfl, nq, rfl⟩

theorem bt_cells {o : Option Nat} {a : World} {g : Nat} (hg : o = some g) : ∀ (vs : List Value) (p : Nat) (w : World), Bt o a w → Bt o a (w.setCells g p vs)
  | [], _, _, h => h
  | v :: r, p, _, h => bt_cells hg r (p + 1) _ (h.set hg v)
theorem row_cells {b g : Nat} {t : TypeId} {n : Nat} {f : Nat → Value} (hne : b ≠ g) : ∀ (vs : List Value) (p : Nat) (w : World), w.rowIs b t n f → (w.setCells g p vs).rowIs b t n f
  | [], _, _, h => h
  | v :: r, p, _, h => row_cells hne r (p + 1) _ (h.setOther (a := ⟨g, p, none⟩) hne v)
theorem HI.drew1 (H : HI S B h n f v w) : HI S B h n f v w.drew := ⟨H.var, H.own, H.low, H.sg⟩
theorem Bt.drew1 {o : Option Nat} {a w : World} (h : Bt o a w) : Bt o a w.drew := ⟨h.os, h.tape, h.output, h.size, h.block⟩
theorem HI.put (hS : ShOk S) {g cap i : Nat} (H : HI S B h n f (.slice (some ⟨g, 0, none⟩) n cap) w) (hi : i < n) (hg : B ≤ g) {e : Ent} (he : ∃ b, e.k = [b]) : HI S B h n (fun x => if x = i then e else f x) (.slice (some ⟨g, 0, none⟩) n cap) (w.setCells g (i * 8) (entD S e)) := by
  have hne : h ≠ g := by have := H.low; omega
  refine ⟨row_cells hne _ _ _ H.var, ?_, H.low, fun x hx => ?_⟩
  · rw [← rowsL_set (entD_length hS) f hi e]
    exact own_cells _ _ _ _ H.own
  · split
    · exact he
    · exact H.sg x hx
theorem HI.congr {g : Nat → Ent} (H : HI S B h n f v w) (e : ∀ i, i < n → f i = g i) : HI S B h n g v w := ⟨H.var, by rw [← rowsL_congr e]; exact H.own, H.low, fun i hi => e i hi ▸ H.sg i hi⟩
theorem swp_eq (f : Nat → Ent) (i j : Nat) : (fun x => if x = j then f i else if x = i then f j else f x) = swp f i j := by
  funext x
  unfold swp
  by_cases e1 : x = i
  · by_cases e2 : x = j
    · rw [if_pos e2, if_pos e1, ← e1, ← e2]
    · rw [if_neg e2, if_pos e1, if_pos e1]
  · rw [if_neg e1, if_neg e1]

theorem chain8 {w : World} {B t g cap n o : Nat} {xs : List Value} (H : w.ownsRow B t 8 (.slice (some ⟨g, 0, none⟩) n cap) n xs) (ho : o + 8 ≤ n * 8) (x0 x1 x2 x3 x4 x5 x6 _x7 : Value) :
    ((∃ y, w.cell? ⟨g, o, none⟩ = some y) ∧ w.frozen? ⟨g, o, none⟩ = false) ∧ ((∃ y, (w.setCell ⟨g, o, none⟩ x0).cell? ⟨g, o + 1, none⟩ = some y) ∧ (w.setCell ⟨g, o, none⟩ x0).frozen? ⟨g, o + 1, none⟩ = false) ∧ ((∃ y, ((w.setCell ⟨g, o, none⟩ x0).setCell ⟨g, o + 1, none⟩ x1).cell? ⟨g, o + 2, none⟩ = some y) ∧ ((w.setCell ⟨g, o, none⟩ x0).setCell ⟨g, o + 1, none⟩ x1).frozen? ⟨g, o + 2, none⟩ = false) ∧ ((∃ y, (((w.setCell ⟨g, o, none⟩ x0).setCell ⟨g, o + 1, none⟩ x1).setCell ⟨g, o + 2, none⟩ x2).cell? ⟨g, o + 3, none⟩ = some y) ∧ (((w.setCell ⟨g, o, none⟩ x0).setCell ⟨g, o + 1, none⟩ x1).setCell ⟨g, o + 2, none⟩ x2).frozen? ⟨g, o + 3, none⟩ = false) ∧ ((∃ y, ((((w.setCell ⟨g, o, none⟩ x0).setCell ⟨g, o + 1, none⟩ x1).setCell ⟨g, o + 2, none⟩ x2).setCell ⟨g, o + 3, none⟩ x3).cell? ⟨g, o + 4, none⟩ = some y) ∧ ((((w.setCell ⟨g, o, none⟩ x0).setCell ⟨g, o + 1, none⟩ x1).setCell ⟨g, o + 2, none⟩ x2).setCell ⟨g, o + 3, none⟩ x3).frozen? ⟨g, o + 4, none⟩ = false) ∧ ((∃ y, (((((w.setCell ⟨g, o, none⟩ x0).setCell ⟨g, o + 1, none⟩ x1).setCell ⟨g, o + 2, none⟩ x2).setCell ⟨g, o + 3, none⟩ x3).setCell ⟨g, o + 4, none⟩ x4).cell? ⟨g, o + 5, none⟩ = some y) ∧ (((((w.setCell ⟨g, o, none⟩ x0).setCell ⟨g, o + 1, none⟩ x1).setCell ⟨g, o + 2, none⟩ x2).setCell ⟨g, o + 3, none⟩ x3).setCell ⟨g, o + 4, none⟩ x4).frozen? ⟨g, o + 5, none⟩ = false) ∧ ((∃ y, ((((((w.setCell ⟨g, o, none⟩ x0).setCell ⟨g, o + 1, none⟩ x1).setCell ⟨g, o + 2, none⟩ x2).setCell ⟨g, o + 3, none⟩ x3).setCell ⟨g, o + 4, none⟩ x4).setCell ⟨g, o + 5, none⟩ x5).cell? ⟨g, o + 6, none⟩ = some y) ∧ ((((((w.setCell ⟨g, o, none⟩ x0).setCell ⟨g, o + 1, none⟩ x1).setCell ⟨g, o + 2, none⟩ x2).setCell ⟨g, o + 3, none⟩ x3).setCell ⟨g, o + 4, none⟩ x4).setCell ⟨g, o + 5, none⟩ x5).frozen? ⟨g, o + 6, none⟩ = false) ∧ ((∃ y, (((((((w.setCell ⟨g, o, none⟩ x0).setCell ⟨g, o + 1, none⟩ x1).setCell ⟨g, o + 2, none⟩ x2).setCell ⟨g, o + 3, none⟩ x3).setCell ⟨g, o + 4, none⟩ x4).setCell ⟨g, o + 5, none⟩ x5).setCell ⟨g, o + 6, none⟩ x6).cell? ⟨g, o + 7, none⟩ = some y) ∧ (((((((w.setCell ⟨g, o, none⟩ x0).setCell ⟨g, o + 1, none⟩ x1).setCell ⟨g, o + 2, none⟩ x2).setCell ⟨g, o + 3, none⟩ x3).setCell ⟨g, o + 4, none⟩ x4).setCell ⟨g, o + 5, none⟩ x5).setCell ⟨g, o + 6, none⟩ x6).frozen? ⟨g, o + 7, none⟩ = false) := by
  have k : ∀ (w : World) (xs : List Value) (p : Nat), w.ownsRow B t 8 (.slice (some ⟨g, 0, none⟩) n cap) n xs → p < n * 8 → (∃ y, w.cell? ⟨g, p, none⟩ = some y) ∧ w.frozen? ⟨g, p, none⟩ = false := fun w xs p o hp => ⟨⟨xs[p]'(by rw [o.1]; exact hp), by rw [o.cellAt p hp]; simp⟩, o.frozenAt p⟩
  have h1 := (H.stored (o) x0).1
  have h2 := (h1.stored (o + 1) x1).1
  have h3 := (h2.stored (o + 2) x2).1
  have h4 := (h3.stored (o + 3) x3).1
  have h5 := (h4.stored (o + 4) x4).1
  have h6 := (h5.stored (o + 5) x5).1
  have h7 := (h6.stored (o + 6) x6).1
  exact ⟨k _ _ _ H (by omega), k _ _ _ h1 (by omega), k _ _ _ h2 (by omega), k _ _ _ h3 (by omega), k _ _ _ h4 (by omega), k _ _ _ h5 (by omega), k _ _ _ h6 (by omega), k _ _ _ h7 (by omega)⟩
theorem eight {l : List Value} (h : l.length = 7) : ∃ a b c d e x y, l = [a, b, c, d, e, x, y] := by
  match l, h with
  | [a, b, c, d, e, x, y], _ => exact ⟨a, b, c, d, e, x, y, rfl⟩
theorem run_one (u : Value) (h : u.oneCell' = true) (w : World) (a : Addr) : (store a u).run Tryz.prog w = stored Tryz.prog w a u .plain := run_store Tryz.prog w a u .plain h
theorem run_seven {a b c d e x y : Value} (h : ∀ u ∈ [a, b, c, d, e, x, y], u.oneCell' = true) :
    (∀ w p, (store p a).run Tryz.prog w = stored Tryz.prog w p a .plain) ∧ (∀ w p, (store p b).run Tryz.prog w = stored Tryz.prog w p b .plain) ∧ (∀ w p, (store p c).run Tryz.prog w = stored Tryz.prog w p c .plain) ∧ (∀ w p, (store p d).run Tryz.prog w = stored Tryz.prog w p d .plain) ∧ (∀ w p, (store p e).run Tryz.prog w = stored Tryz.prog w p e .plain) ∧ (∀ w p, (store p x).run Tryz.prog w = stored Tryz.prog w p x .plain) ∧ (∀ w p, (store p y).run Tryz.prog w = stored Tryz.prog w p y .plain) :=
  ⟨run_one a (h a (by simp)), run_one b (h b (by simp)), run_one c (h c (by simp)), run_one d (h d (by simp)), run_one e (h e (by simp)), run_one x (h x (by simp)), run_one y (h y (by simp))⟩
theorem range8 {w : World} {g o : Nat} {a b c d e x y z : Value} (h : w.rangeAt g o [a, b, c, d, e, x, y, z]) : w.cell? ⟨g, o, none⟩ = some a ∧ w.cell? ⟨g, o + 1, none⟩ = some b ∧ w.cell? ⟨g, o + 2, none⟩ = some c ∧ w.cell? ⟨g, o + 3, none⟩ = some d ∧ w.cell? ⟨g, o + 4, none⟩ = some e ∧ w.cell? ⟨g, o + 5, none⟩ = some x ∧ w.cell? ⟨g, o + 6, none⟩ = some y ∧ w.cell? ⟨g, o + 7, none⟩ = some z :=
  ⟨h 0 _ rfl, h 1 _ rfl, h 2 _ rfl, h 3 _ rfl, h 4 _ rfl, h 5 _ rfl, h 6 _ rfl, h 7 _ rfl⟩

set_option maxHeartbeats 8000000 in
set_option maxRecDepth 100000 in
theorem swapI_any (hS : ShOk S) (B h n i j : Nat) (f : Nat → Ent) (v : Value) (w : World) (H : HI S B h n f v w) (hi : i < n) (hj : j < n) :
    Calls Tryz.prog 91 #[.pointer (some ⟨h, 0, none⟩), .int .i64 ((i : Nat) : Int), .int .i64 ((j : Nat) : Int)] w fun e w' => e = .returned (.tuple #[]) ∧ HI S B h n (swp f i j) v w' ∧ Bt v.ownBlock w w' := by
  obtain ⟨g, cap, rfl, hg, hnc, hcm⟩ := H.form (by omega)
  have hi' : (i : Int) < (n : Int) := by omega
  have hj' : (j : Int) < (n : Int) := by omega
  have a0 := H.var.cell (i := 0) (by omega)
  have ri := own_range (entD_length hS) H.own hi
  have rj := own_range (entD_length hS) H.own hj
  have H1 := H.put hS hi hg (H.sg j hj)
  have H2 := H1.put hS hj hg (H.sg i hi)
  have hb := bt_cells (o := some g) rfl (entD S (f i)) (j * 8) _ (bt_cells (o := some g) rfl (entD S (f j)) (i * 8) w (Bt.refl _ _))
  rw [swp_eq] at H2
  have o0 := H.own
  have o1 := H1.own
  simp only [entD] at ri rj H2 hb o1
  have sa := hS.one (f i).l
  have sb := hS.one (f j).l
  obtain ⟨a1, a2, a3, a4, a5, a6, a7, ea⟩ := eight (hS.len (f i).l)
  obtain ⟨b1, b2, b3, b4, b5, b6, b7, eb⟩ := eight (hS.len (f j).l)
  rw [ea] at ri H2 hb sa
  rw [eb] at rj H2 hb o1 sb
  have tk := fun (n : Int) => run_one (.int .i64 n) rfl
  obtain ⟨t1, t2, t3, t4, t5, t6, t7⟩ := run_seven sa
  obtain ⟨v1, v2, v3, v4, v5, v6, v7⟩ := run_seven sb
  obtain ⟨p0, p1, p2, p3, p4, p5, p6, p7⟩ := range8 ri
  obtain ⟨q0, q1, q2, q3, q4, q5, q6, q7⟩ := range8 rj
  obtain ⟨⟨-, z0⟩, ⟨⟨_, c1⟩, z1⟩, ⟨⟨_, c2⟩, z2⟩, ⟨⟨_, c3⟩, z3⟩, ⟨⟨_, c4⟩, z4⟩, ⟨⟨_, c5⟩, z5⟩, ⟨⟨_, c6⟩, z6⟩, ⟨_, c7⟩, z7⟩ := chain8 o0 (o := i * 8) (by omega) (.int .i64 ((ekey (f j) : Nat) : Int)) b1 b2 b3 b4 b5 b6 b7
  obtain ⟨⟨⟨_, d0⟩, y0⟩, ⟨⟨_, d1⟩, y1⟩, ⟨⟨_, d2⟩, y2⟩, ⟨⟨_, d3⟩, y3⟩, ⟨⟨_, d4⟩, y4⟩, ⟨⟨_, d5⟩, y5⟩, ⟨⟨_, d6⟩, y6⟩, ⟨_, d7⟩, y7⟩ := chain8 o1 (o := j * 8) (by omega) (.int .i64 ((ekey (f i) : Nat) : Int)) a1 a2 a3 a4 a5 a6 a7
  simp only [World.setCells, Nat.add_assoc, Nat.reduceAdd] at d0 d1 d2 d3 d4 d5 d6 d7 y0 y1 y2 y3 y4 y5 y6 y7 H2 hb
  clear H H1 o0 o1 ri rj ea eb sa sb
  generalize ekey (f i) = ka at *
  generalize ekey (f j) = kb at *
  go_enter Tryz.func91, Tryz.ntmps91
  go_wp2
  go_region
  go_end0
  refine ⟨rfl, ?_, ?_⟩
  · with_reducible exact H2.drew1
  · show Bt (some g) w _
    with_reducible exact hb.drew1
end
end Go.Proofs.YtlghjjennhpjeaaGreatDoor

/-
  The heap by numbers: an entry goes up, an entry goes down.
-/
namespace Go.Proofs.YtlghjjennhpjeaaGreatDoor
open Go.RowKit Go.Deep Go.Hp
section
variable {S : Nat → List Value}
def SiftI (S : Nat → List Value) (B h n : Nat) (f : Nat → Ent) (v : Value) (w : World) (e : Ending) (w' : World) : Prop := e = .returned (.tuple #[]) ∧ ∃ f', HI S B h n f' v w' ∧ Rearr n f f' ∧ Hp f' n ∧ Bt v.ownBlock w w'

set_option maxHeartbeats 2000000 in
set_option maxRecDepth 100000 in
theorem siftUpI_any (hS : ShOk S) (B h n i : Nat) (f : Nat → Ent) (v : Value) (w : World) (H : HI S B h n f v w) (hi : i < n) (hu : HpUp f n i) :
    Calls Tryz.prog 69 #[.pointer (some ⟨h, 0, none⟩), .int .i64 ((i : Nat) : Int)] w fun e w' => SiftI S B h n f v w e w' := by
  obtain ⟨g, cap, rfl, hg, hnc, hcm⟩ := H.form (by omega)
  have hcm' : cap ≤ 9223372036854775807 := hcm
  clear hcm
  go_enter Tryz.func69, Tryz.ntmps69
  go_wp2
  go_loopw [1, 4] (fun vi _ wr => ∃ (i : Nat) (f' : Nat → Ent), i < n ∧ vi = .int .i64 ((i : Nat) : Int) ∧ HI S B h n f' (.slice (some ⟨g, 0, none⟩) n cap) wr ∧ Rearr n f f' ∧ HpUp f' n i ∧ Bt (some g) w wr) (fun vi _ _ => (intOf vi).toNat)
  case atStart => exact ⟨i, f, hi, rfl, H, Rearr.refl n f, hu, Bt.refl _ _⟩
  case round =>
    clear H hi hu
    obtain ⟨i, f', hi, rfl, H, hR, hu, hb⟩ := hrel
    by_cases h0 : 0 < i
    · have h0' : (0 : Int) < (i : Int) := by omega
      have a0 := H.var.cell (i := 0) (by omega)
      have hp : (i - 1) / 2 < i := by omega
      have hq : Int.tdiv ((i : Int) - 1) 2 = (((i - 1) / 2 : Nat) : Int) := by
        rw [Int.tdiv_eq_ediv_of_nonneg (by omega)]
        omega
      have c1 := H.key hS (i := (i - 1) / 2) (by omega)
      have c2 := H.key hS hi
      have hlk := lt_key (H.sg i hi) (H.sg ((i - 1) / 2) (by omega))
      have cs := fun m => swapI_any hS B h n ((i - 1) / 2) i f' _ (wr.drewN m) (H.drew m) (by omega) hi
      have hus := fun hl => up_step hu h0 hi hl
      have hst := fun hl => up_stop hu (fun _ => hl)
      have hRs := hR.trans (Rearr.swp f' (show (i - 1) / 2 < n by omega) hi)
      generalize hpp : (i - 1) / 2 = p at *
      have hp' : (p : Int) < (n : Int) := by omega
      have hi' : (i : Int) < (n : Int) := by omega
      by_cases hkk : ((ekey (f' p) : Nat) : Int) ≤ ((ekey (f' i) : Nat) : Int)
      rotate_left
      · have hle : decide (((ekey (f' p) : Nat) : Int) ≤ ((ekey (f' i) : Nat) : Int)) = false := decide_eq_false hkk
        have hl : Hp.lt (f' i).k (f' p).k = true := by rw [hlk]; exact decide_eq_true (by omega)
        have hus' := hus hl
        clear hus hst hl
        go_wp2_with fail
        go_big_quiet (fail)
        have cs' := cs nq
        have hbq := hb.drew nq
        have hbs := hbq.size
        clear cs H hb
        generalize wr.drewN nq = wq at *
        go_wp2_with (first | (go_at_call 91; (with_reducible refine cs'.mono ?_); rintro e w2 ⟨rfl, hH2, hb2⟩))
        go_roundw
        case rel => exact ⟨p, _, by omega, rfl, hH2, hRs, hus', hbq.trans hb2⟩
        case measure => simp [intOf]; omega
      · have hle : decide (((ekey (f' p) : Nat) : Int) ≤ ((ekey (f' i) : Nat) : Int)) = true := decide_eq_true hkk
        have hl := hst (show Hp.lt (f' i).k (f' p).k = false by rw [hlk]; exact decide_eq_false (by omega))
        clear hus hst
        go_wp2_with fail
        go_big_quiet (fail)
        have H2 := H.drew nq
        have hbq := hb.drew nq
        clear cs H hb
        generalize wr.drewN nq = wq at *
        go_wp2
        go_end0
        exact ⟨rfl, f', H2, hR, hl, hbq⟩
    · have h0' : ¬ ((0 : Int) < (i : Int)) := by omega
      go_wp2
      go_end0
      exact ⟨rfl, f', H, hR, up_stop hu (fun h => absurd h h0), hb⟩

set_option maxHeartbeats 2000000 in
set_option maxRecDepth 100000 in
theorem siftDownI_any (hS : ShOk S) (B h n i : Nat) (f : Nat → Ent) (v : Value) (w : World) (H : HI S B h n f v w) (hn : n ≤ 4398046511104) (hi : i < n ∨ i = 0) (hu : HpDn f n i) :
    Calls Tryz.prog 70 #[.pointer (some ⟨h, 0, none⟩), .int .i64 ((i : Nat) : Int)] w fun e w' => SiftI S B h n f v w e w' := by
  go_enter Tryz.func70, Tryz.ntmps70
  go_wp2
  go_loopw [1, 4] (fun vi _ wr => ∃ (i : Nat) (f' : Nat → Ent), (i < n ∨ i = 0) ∧ vi = .int .i64 ((i : Nat) : Int) ∧ HI S B h n f' v wr ∧ Rearr n f f' ∧ HpDn f' n i ∧ Bt v.ownBlock w wr) (fun vi _ _ => n - (intOf vi).toNat)
  case atStart => exact ⟨i, f, hi, rfl, H, Rearr.refl n f, hu, Bt.refl _ _⟩
  case round =>
    clear H hi hu
    obtain ⟨i, f', hi, rfl, H, hR, hu, hb⟩ := hrel
    obtain ⟨l1, l2, l3⟩ := lsr_two n f' i
    have k1 := lesserI_any hS B h n (2 * i + 1) (2 * i + 2) f' v wr H (by omega) (by omega)
    generalize ha : lsr n f' (2 * i + 1) (2 * i + 2) = a at *
    have k2 := fun w' (H' : HI S B h n f' v w') => lesserI_any hS B h n i a f' v w' H' (fun _ => by omega) (by omega)
    have dr : ∀ {w1 w2 : World}, HI S B h n f' v w1 → Bt v.ownBlock w w1 → (∃ m, w2 = w1.drewN m) → HI S B h n f' v w2 ∧ Bt v.ownBlock w w2 := fun {w1 w2} h1 h2 ⟨m, e⟩ => by subst e; exact ⟨h1.drew m, h2.drew m⟩
    have e1 : 2 * ((i : Nat) : Int) + 1 = ((2 * i + 1 : Nat) : Int) := by omega
    have e2 : 2 * ((i : Nat) : Int) + 2 = ((2 * i + 2 : Nat) : Int) := by omega
    by_cases hx : a < n ∧ Hp.lt (f' a).k (f' i).k = true
    · have el : lsr n f' i a = a := by unfold lsr; rw [if_pos hx]
      have hin : i < n := by omega
      rw [el] at k2
      have hs := dn_step hu (show 0 < a by omega) hx.1 (by omega) hx.2 (l2 hx.1)
      have cs := fun w' (H' : HI S B h n f' v w') => swapI_any hS B h n a i f' v w' H' hx.1 hin
      have hRs := hR.trans (Rearr.swp f' hx.1 hin)
      have hne : ((a : Int) == (i : Int)) = false := by simp; omega
      have hlt := hx.1
      clear hx el l2 l3 hu ha
      generalize hi2 : 2 * i + 1 = i1 at *
      generalize hi3 : 2 * i + 2 = i2 at *
      go_wp2_with (first
        | (go_at_call 92; (with_reducible refine k1.mono ?_); rintro e w1 ⟨rfl, hw1⟩; (obtain ⟨H1, hb1⟩ := dr H hb hw1); clear hw1 H hb k1)
        | (go_at_call 92; (with_reducible refine (k2 _ H1).mono ?_); rintro e w2 ⟨rfl, hw2⟩; (obtain ⟨H2, hb2⟩ := dr H1 hb1 hw2); clear hw2 H1 hb1 k2)
        | (go_at_call 91; (with_reducible refine (cs _ H2).mono ?_); rintro e w3 ⟨rfl, H3, hb3⟩))
      go_roundw
      case rel => exact ⟨a, _, .inl hlt, rfl, H3, hRs, hs, hb2.trans hb3⟩
      case measure => simp [intOf]; omega
    · have el : lsr n f' i a = i := by unfold lsr; rw [if_neg hx]
      rw [el] at k2
      have hs : Hp f' n := dn_stop hu fun c h0 hc hci => by
        rcases l3 with l3 | l3
        · rcases hy : Hp.lt (f' a).k (f' i).k with _ | _
          · exact le_trans hy (l2 l3 c h0 hc hci)
          · exact absurd ⟨l3, hy⟩ hx
        · exact absurd hci (l3 c h0 hc)
      have hne : ((i : Int) == (i : Int)) = true := by simp
      clear hx el l2 l3 hu ha
      generalize hi2 : 2 * i + 1 = i1 at *
      generalize hi3 : 2 * i + 2 = i2 at *
      go_wp2_with (first
        | (go_at_call 92; (with_reducible refine k1.mono ?_); rintro e w1 ⟨rfl, hw1⟩; (obtain ⟨H1, hb1⟩ := dr H hb hw1); clear hw1 H hb k1)
        | (go_at_call 92; (with_reducible refine (k2 _ H1).mono ?_); rintro e w2 ⟨rfl, hw2⟩; (obtain ⟨H2, hb2⟩ := dr H1 hb1 hw2); clear hw2 H1 hb1 k2))
      go_end0
      exact ⟨rfl, f', H2, hR, hs, hb2⟩
end
end Go.Proofs.YtlghjjennhpjeaaGreatDoor

/-
  The heap by numbers: Len, Push, Pop.
-/
namespace Go.Proofs.YtlghjjennhpjeaaGreatDoor
open Go.RowKit Go.Deep Go.Hp

theorem cells_new (w : World) (l : List Value) (t : TypeId) (j : Nat) : (w.alloc (.cells l.toArray t)).cell? ⟨w.heap.size, j, none⟩ = l[j]? := by
  simp only [World.cell?, heap_alloc_new]
  simp
theorem cells_news (w : World) (l : List Value) (t : TypeId) : ∀ j u, l[j]? = some u → (w.alloc (.cells l.toArray t)).cell? ((⟨w.heap.size, 0, none⟩ : Addr).add j) = some u := fun j u h => by
  rw [Addr.add_mid, Nat.zero_add, cells_new]
  exact h
theorem Tryz.infoEntI : (Tryz.prog.info? 144).map (fun i => (i.zero, i.size, i.bytes)) = some (some (.agg #[.int .i64 0, .int .i64 0, .int .i64 0, .int .i64 0, .int .i64 0, .slice none 0 0, .slice none 0 0, .slice none 0 0]), 8, 112) := by kernel_rfl
section
variable {S : Nat → List Value} {B h n : Nat} {f : Nat → Ent} {v : Value} {w : World}
set_option maxHeartbeats 400000 in
set_option maxRecDepth 100000 in
theorem lenI_any (H : HI S B h n f v w) : Calls Tryz.prog 46 #[.pointer (some ⟨h, 0, none⟩)] w fun r w' => r = .returned (.int .i64 ((n : Nat) : Int)) ∧ w' = w := by
  have a0 := H.var.cell (i := 0) (by omega)
  obtain ⟨bo, cap, rfl⟩ := H.slice
  clear H
  go_enter Tryz.func46, Tryz.ntmps46
  go_wp2
  go_ret
  exact ⟨rfl, rfl⟩
theorem HI.push {v' : Value} {e : Ent} {wa w1 : World} (he : ∃ b, e.k = [b]) (H : HI S B h n f v w) (hB : B ≤ w.heap.size) (ha : Below w.heap.size w wa) (hg : wa.grownBy w1 v.ownBlock) (ho : w1.ownsRow B 144 8 v' (n + 1) (rowsL (entD S) n f ++ entD S e)) :
    HI S B h (n + 1) (fun x => if x = n then e else f x) v' (w1.setCell ⟨h, 0, none⟩ v') ∧ w1.cell? ⟨h, 0, none⟩ = some v ∧ w1.frozen? ⟨h, 0, none⟩ = false ∧ Below h w (w1.setCell ⟨h, 0, none⟩ v') ∧ B ≤ (w1.setCell ⟨h, 0, none⟩ v').heap.size := by
  have hlow := H.low
  have hsa := ha.size
  have k : w1.heap[h]? = w.heap[h]? := (hg.block h (by omega) (fun e' => by have := (H.own.lt h e'.symm).1; omega)).trans (ha.block h (by omega))
  have r := H.var.of_block k
  have hbw : Below B w w1 := ((ha.mono hB).grown hg (by omega) (fun x hx => (H.own.lt x hx).1))
  have hs1 := hbw.size
  refine ⟨⟨(r.set 0 v').congr fun i hi => by rw [if_pos (by omega)], ?_, hlow, fun x hx => ?_⟩, r.cell (i := 0) (by omega), r.frozen 0, ?_, by simp; omega⟩
  · rw [rowsL_succ, if_pos rfl, rowsL_congr (g := f) fun i hi => by rw [if_neg (by omega)]]
    exact ownsRow_setCell_below ho (a := ⟨h, 0, none⟩) hlow v'
  · split
    · exact he
    · exact H.sg x (by omega)
  · exact (hbw.mono (Nat.le_of_lt hlow)).setCell (p := ⟨h, 0, none⟩) (Nat.le_refl _) _

set_option maxHeartbeats 8000000 in
set_option maxRecDepth 100000 in
theorem pushI_any (hS : ShOk S) (B h n : Nat) (f : Nat → Ent) (v : Value) (e : Ent) (w : World) (he : ∃ b, e.k = [b]) (H : HI S B h n f v w) (hB : B ≤ w.heap.size) (hn : n ≤ 1048576) (hp : Hp f n) :
    Calls Tryz.prog 45 #[.pointer (some ⟨h, 0, none⟩), .int .i64 ((ekey e : Nat) : Int), .agg (S e.l).toArray] w fun r w' => r = .returned (.tuple #[]) ∧ ∃ f' v', HI S B h (n + 1) f' v' w' ∧ Rearr (n + 1) (fun x => if x = n then e else f x) f' ∧ Hp f' (n + 1) ∧ Below h w w' ∧ B ≤ w'.heap.size := by
  obtain ⟨i0, hi0, hz0, hz1, hz2⟩ := info_parts Tryz.infoEntI
  have hlow := H.low
  have hex : ∀ {w0 wa w1 : World} {v' : Value}, HI S B h n f v w0 → _ := fun {w0 wa w1 v'} H0 hB0 => HI.push (wa := wa) (w1 := w1) (v' := v') he H0 hB0
  have h1c := entD_one hS e
  have hcn := fun w t => cells_news w (entD S e) t
  unfold entD at hcn h1c
  have cn := fun w t => cells_new w (S e.l) t
  have hnl := entD_length hS e
  obtain ⟨x1, x2, x3, x4, x5, x6, x7, ex⟩ := eight (hS.len e.l)
  unfold entD at hnl
  have e7 : entD S e = [.int .i64 ((ekey e : Nat) : Int), x1, x2, x3, x4, x5, x6, x7] := by rw [entD, ex]
  rw [e7] at hex
  rw [ex] at hcn h1c cn hnl ⊢
  have b0 : Below h w (w.alloc (.cells #[x1, x2, x3, x4, x5, x6, x7] 41)) := (Below.refl _ _).alloc (by omega) _
  have H0 : HI S B h n f v (w.alloc (.cells #[x1, x2, x3, x4, x5, x6, x7] 41)) := ⟨H.var.alloc _, H.own.alloc _, H.low, H.sg⟩
  have hB0 : B ≤ (w.alloc (.cells #[x1, x2, x3, x4, x5, x6, x7] 41)).heap.size := by simp; omega
  have c0 := cn w 41 0
  have c1 := cn w 41 1
  have c2 := cn w 41 2
  have c3 := cn w 41 3
  have c4 := cn w 41 4
  have c5 := cn w 41 5
  have c6 := cn w 41 6
  simp only [List.getElem?_cons_zero, List.getElem?_cons_succ] at c0 c1 c2 c3 c4 c5 c6
  obtain ⟨bo, cap, rfl⟩ := H.slice
  clear H hB cn
  go_enter Tryz.func45, Tryz.ntmps45
  go_wp2_with fail
  have a0 := H0.var.cell (i := 0) (by omega)
  have a0' := (H0.var.alloc (.cells #[.int .i64 ((ekey e : Nat) : Int), x1, x2, x3, x4, x5, x6, x7] 144)).cell (i := 0) (by omega)
  generalize hw0 : w.alloc (.cells #[x1, x2, x3, x4, x5, x6, x7] 41) = w0 at *
  clear hw0
  go_region_law ((refine step_app_at rfl _ _ 110 rfl B 144 i0 (.agg #[.int .i64 0, .int .i64 0, .int .i64 0, .int .i64 0, .int .i64 0, .slice none 0 0, .slice none 0 0, .slice none 0 0]) 8 112 Tryz.underlying110 hi0 hz0 hz1 hz2 rfl (by decide) _ _ _ rfl ((H0.own.alloc _).drew) ⟨w0.heap.size, 0, none⟩ 1 1 [.int .i64 ((ekey e : Nat) : Int), x1, x2, x3, x4, x5, x6, x7] rfl rfl (hcn _ _) h1c (by unfold maxLen; omega) (by omega) (by simp; omega) ?_; intro v' w1 hown' hgrow hwh; obtain ⟨gq, cq, rfl, _, _⟩ := hown'.form (by omega); obtain ⟨H2, d1, d2, hb2, hB2⟩ := hex H0 hB0 (((Below.refl w0.heap.size w0).alloc (Nat.le_refl _) _).drew) hgrow hown'))
  all_goals
    have k3 := siftUpI_any hS B h (n + 1) n _ _ _ H2 (by omega) (up_start hp)
    have g0 := H2.var.cell (i := 0) (by omega)
    have hbw := b0.trans hb2
    clear H0 H2 a0 a0' c0 c1 c2 c3 c4 c5 c6 d1 d2 b0 hb2 hgrow hwh hex
    generalize w1.setCell ⟨h, 0, none⟩ (.slice (some ⟨gq, 0, none⟩) (n + 1) cq) = w2 at *
    go_wp2_with (first | (go_at_call 69; (with_reducible refine k3.mono ?_); rintro r w3 ⟨rfl, f', H3, hR3, hp3, hb3⟩))
    go_end0
    exact ⟨rfl, f', _, H3, hR3, hp3, hbw.trans ((hb3.below hB2 (fun g hg' => by have := (hown'.lt g hg').1; omega)).mono (Nat.le_of_lt hlow)), Nat.le_trans hB2 hb3.size⟩
end
end Go.Proofs.YtlghjjennhpjeaaGreatDoor
